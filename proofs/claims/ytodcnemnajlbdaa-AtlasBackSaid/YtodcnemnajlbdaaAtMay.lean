/-
  Layer atlas, pure: shards; what a split, a merge, a move makes of an atlas that may be, and of its owners.
-/
import Derived.Test.YtodcnemnajlbdaaAtMath
namespace Go.Gz

/-- a shard. -/
structure Sd where
  sp : SP
  n : Int
  e : Int
deriving Inhabited, DecidableEq
structure MayA (nodes ep : Int) (L : List Sd) : Prop where
  nd : 1 ≤ nodes ∧ nodes ≤ 5
  ln : 1 ≤ L.length ∧ L.length ≤ 12
  ep1 : 1 ≤ ep
  sh : ∀ x ∈ L, 1 ≤ x.n ∧ x.n ≤ nodes ∧ 1 ≤ x.e ∧ x.e ≤ ep
  wh : wholeB (L.map Sd.sp) = true
/-- the new list: d shards from i on are put as others. -/
def withL (L M : List Sd) (i d : Nat) : List Sd := L.take i ++ M ++ L.drop (i + d)
theorem withL_len (L M : List Sd) {i d : Nat} (h : i + d ≤ L.length) : (withL L M i d).length = L.length + M.length - d := by
  unfold withL
  simp only [List.length_append, List.length_take, List.length_drop]
  omega
theorem withL_get (L M : List Sd) {i : Nat} (d : Nat) (h : i ≤ L.length) (j : Nat) : (withL L M i d)[j]? = if j < i then L[j]? else if j < i + M.length then M[j - i]? else L[j + d - M.length]? := put_get? L M i d h j
theorem withL_mem {L M : List Sd} {i d : Nat} {x : Sd} (h : x ∈ withL L M i d) : x ∈ L ∨ x ∈ M := by
  unfold withL at h
  rcases List.mem_append.1 h with h | h
  · rcases List.mem_append.1 h with h | h
    · exact Or.inl (List.mem_of_mem_take h)
    · exact Or.inr h
  · exact Or.inl (List.mem_of_mem_drop h)
theorem withL_map (L M : List Sd) (i d : Nat) : (withL L M i d).map Sd.sp = (L.map Sd.sp).take i ++ M.map Sd.sp ++ (L.map Sd.sp).drop (i + d) := by
  unfold withL
  simp [List.map_take, List.map_drop]

section
variable {nodes ep : Int} {L : List Sd}
theorem MayA.cut (h : MayA nodes ep L) : ∃ ss, AscL ss ∧ L.map Sd.sp = partsL ss ∧ L.length = ss.length + 1 := by
  obtain ⟨ss, h1, h2⟩ := whole_parts h.wh
  exact ⟨ss, h1, h2, by rw [← List.length_map (f := Sd.sp), h2, partsL_len]⟩
theorem at_part {ss : List ByteArray} (h2 : L.map Sd.sp = partsL ss) {i : Nat} (hi : i < L.length) : (L.getD i default).sp = spAt ss i := by
  have h3 : (L.map Sd.sp)[i]? = (partsL ss)[i]? := by rw [h2]
  have h4 : i ≤ ss.length := by
    have : (L.map Sd.sp).length = ss.length + 1 := by rw [h2, partsL_len]
    rw [List.length_map] at this
    omega
  rw [List.getElem?_map, List.getElem?_eq_getElem hi, parts_get?, if_pos h4] at h3
  rw [List.getD, List.getElem?_eq_getElem hi]
  simpa using h3
theorem MayA.all {M : List Sd} {i d : Nat} (h : MayA nodes ep L) (hn : ∀ x ∈ M, 1 ≤ x.n ∧ x.n ≤ nodes ∧ x.e = ep + 1) : ∀ x ∈ withL L M i d, 1 ≤ x.n ∧ x.n ≤ nodes ∧ 1 ≤ x.e ∧ x.e ≤ ep + 1 := fun x hx => by
  have := h.ep1
  rcases withL_mem hx with hx | hx
  · have := h.sh x hx
    omega
  · have := hn x hx
    omega
theorem get_mem {i : Nat} (hi : i < L.length) : L.getD i default ∈ L := by
  rw [List.getD, List.getElem?_eq_getElem hi]
  exact List.getElem_mem hi
/-- a shard is split. -/
theorem MayA.split (h : MayA nodes ep L) {i : Nat} (hi : i < L.length) (hl : L.length < 12) {k : ByteArray} (hk : hasB (L.getD i default).sp k = true) (hne : k ≠ (L.getD i default).sp.f) :
    MayA nodes (ep + 1) (withL L [⟨⟨(L.getD i default).sp.f, k⟩, (L.getD i default).n, ep + 1⟩, ⟨⟨k, (L.getD i default).sp.t⟩, (L.getD i default).n, ep + 1⟩] i 1) := by
  obtain ⟨ss, h1, h2, h3⟩ := h.cut
  have hx := at_part h2 hi
  have hs := h.sh _ (get_mem hi)
  refine ⟨h.nd, ?_, by have := h.ep1; omega, h.all fun x hx => ?_, ?_⟩
  · rw [withL_len _ _ (by omega)]
    simp only [List.length_cons, List.length_nil]
    omega
  · simp only [List.mem_cons, List.not_mem_nil, or_false] at hx
    rcases hx with rfl | rfl <;> exact ⟨hs.1, hs.2.1, rfl⟩
  · rw [hx] at hk hne ⊢
    obtain ⟨h4, h5⟩ := parts_split h1 (by omega) hk hne
    rw [withL_map, h2]
    exact (congrArg wholeB h5).symm.trans h4.whole
/-- a shard and the next one are merged. -/
theorem MayA.merge (h : MayA nodes ep L) {i : Nat} (hi : i + 1 < L.length) :
    MayA nodes (ep + 1) (withL L [⟨⟨(L.getD i default).sp.f, (L.getD (i + 1) default).sp.t⟩, (L.getD i default).n, ep + 1⟩] i 2) := by
  obtain ⟨ss, h1, h2, h3⟩ := h.cut
  have hx := at_part h2 (show i < L.length by omega)
  have hy := at_part h2 hi
  have hs := h.sh _ (get_mem (show i < L.length by omega))
  refine ⟨h.nd, ?_, by have := h.ep1; omega, h.all fun x hx => ?_, ?_⟩
  · rw [withL_len _ _ (by omega)]
    have := h.ln
    simp only [List.length_cons, List.length_nil]
    omega
  · simp only [List.mem_cons, List.not_mem_nil, or_false] at hx
    subst hx
    exact ⟨hs.1, hs.2.1, rfl⟩
  · rw [hx, hy, withL_map, h2]
    have h5 := parts_merge (ss := ss) (i := i) (by omega)
    exact (congrArg wholeB h5).symm.trans (h1.less (by omega)).whole
/-- a shard is moved. -/
theorem MayA.move (h : MayA nodes ep L) {i : Nat} (hi : i < L.length) {m : Int} (hm : 1 ≤ m ∧ m ≤ nodes) : MayA nodes (ep + 1) (withL L [⟨(L.getD i default).sp, m, ep + 1⟩] i 1) := by
  refine ⟨h.nd, ?_, by have := h.ep1; omega, h.all fun x hx => ?_, ?_⟩
  · rw [withL_len _ _ (by omega)]
    have := h.ln
    simp only [List.length_cons, List.length_nil]
    omega
  · simp only [List.mem_cons, List.not_mem_nil, or_false] at hx
    subst hx
    exact ⟨hm.1, hm.2, rfl⟩
  · have e : (withL L [⟨(L.getD i default).sp, m, ep + 1⟩] i 1).map Sd.sp = L.map Sd.sp := by
      refine List.ext_getElem? fun j => ?_
      rw [List.getElem?_map, List.getElem?_map, withL_get _ _ _ (by omega)]
      simp only [List.length_cons, List.length_nil]
      rcases Nat.lt_trichotomy j i with hj | hj | hj
      · rw [if_pos hj]
      · subst hj
        rw [if_neg (by omega), if_pos (by omega), Nat.sub_self, List.getElem?_eq_getElem hi, List.getD, List.getElem?_eq_getElem hi]
        rfl
      · rw [if_neg (by omega), if_neg (by omega)]
        rfl
    rw [e]
    exact h.wh
/-- each key has one owner. -/
theorem MayA.one (h : MayA nodes ep L) (k : ByteArray) : L.countP (fun x => hasB x.sp k) = 1 := by
  obtain ⟨ss, h1, h2, -⟩ := h.cut
  have := one_has h1 k
  rw [← h2, List.countP_map] at this
  exact this
theorem MayA.owner (h : MayA nodes ep L) (k : ByteArray) : ∃ i, i < L.length ∧ hasB (L.getD i default).sp k = true ∧ ∀ j, j < i → hasB (L.getD j default).sp k = false := by
  have h1 := h.one k
  have hex : ∃ x ∈ L, hasB x.sp k = true := List.countP_pos_iff.1 (by omega)
  obtain ⟨x, hx, hk⟩ := hex
  obtain ⟨j, hj, rfl⟩ := List.getElem_of_mem hx
  have hP : ∃ i, i < L.length ∧ hasB (L.getD i default).sp k = true := ⟨j, hj, by rw [List.getD, List.getElem?_eq_getElem hj]; exact hk⟩
  classical
  have key : ∀ n, (∃ i, i < n ∧ i < L.length ∧ hasB (L.getD i default).sp k = true) → ∃ i, i < L.length ∧ hasB (L.getD i default).sp k = true ∧ ∀ j, j < i → hasB (L.getD j default).sp k = false := by
    intro n
    induction n with
    | zero => rintro ⟨i, h, _⟩; omega
    | succ n ih =>
      rintro ⟨i, hin, hil, hik⟩
      by_cases hc : ∃ i, i < n ∧ i < L.length ∧ hasB (L.getD i default).sp k = true
      · exact ih hc
      · obtain rfl : i = n := by
          refine Nat.le_antisymm (by omega) (Nat.le_of_not_lt fun hlt => hc ⟨i, hlt, hil, hik⟩)
        refine ⟨i, hil, hik, fun j hj => ?_⟩
        cases hb : hasB (L.getD j default).sp k with
        | false => rfl
        | true => exact absurd ⟨j, hj, by omega, hb⟩ hc
  obtain ⟨i, h2, h3⟩ := hP
  exact key (i + 1) ⟨i, by omega, h2, h3⟩
/-- .. alone. -/
theorem MayA.apart (h : MayA nodes ep L) {k : ByteArray} {i j : Nat} (hi : i < L.length) (hj : j < L.length) (h1 : hasB (L.getD i default).sp k = true) (h2 : hasB (L.getD j default).sp k = true) : i = j := by
  have hc := h.one k
  have key : ∀ (L : List Sd) (i j : Nat), i < j → j < L.length → hasB (L.getD i default).sp k = true → hasB (L.getD j default).sp k = true → 2 ≤ L.countP (fun x => hasB x.sp k) := by
    intro L
    induction L with
    | nil => intro i j _ hj; simp at hj
    | cons x t ih =>
      intro i j hij hj h1 h2
      obtain ⟨j, rfl⟩ : ∃ q, j = q + 1 := ⟨j - 1, by omega⟩
      rw [List.getD_cons_succ] at h2
      rw [List.countP_cons]
      have hj' : j < t.length := by simpa using hj
      cases i with
      | zero =>
        rw [List.getD_cons_zero] at h1
        rw [if_pos h1]
        have : 0 < t.countP (fun x => hasB x.sp k) := List.countP_pos_iff.2 ⟨_, get_mem hj', h2⟩
        omega
      | succ i =>
        rw [List.getD_cons_succ] at h1
        have := ih i j (by omega) hj' h1 h2
        omega
  rcases Nat.lt_trichotomy i j with hij | hij | hij
  · have := key L i j hij hj h1 h2; omega
  · exact hij
  · have := key L j i hij hi h2 h1; omega
end

/-- the first atlas. -/
theorem MayA.first {m : Int} (h1 : 1 ≤ m) {nodes : Int} (h2 : m ≤ nodes) (h3 : nodes ≤ 5) : MayA nodes 1 [⟨⟨sE, sE⟩, m, 1⟩] := by
  refine ⟨⟨by omega, h3⟩, by simp, by omega, fun x hx => ?_, ?_⟩
  · simp only [List.mem_cons, List.not_mem_nil, or_false] at hx
    subst hx
    exact ⟨h1, h2, Int.le_refl 1, Int.le_refl 1⟩
  · have := AscL.whole (ss := []) (fun i hi => by simp at hi)
    exact this
end Go.Gz
