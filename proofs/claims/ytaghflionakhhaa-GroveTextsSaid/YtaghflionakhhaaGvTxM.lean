/-
  Layer grove, pure half of GroveTexts: trees of texts, what is put, what is walked.
-/
import Derived.Test.YtaghflionakhhaaGvNum
import Derived.Test.YtaghflionakhhaaGsStr
namespace Go.Proofs.Ytaghflionakhhaa
open Go.Gz

/-- texts compared as the law's function does. -/
def cS (a b : ByteArray) : Int := if slt a b = true then -1 else if slt b a = true then 1 else 0
theorem cS_lt {a b : ByteArray} : cS a b < 0 ↔ slt a b = true := by
  unfold cS
  by_cases h : slt a b = true
  · simp [h]
  · rw [if_neg h]
    by_cases h2 : slt b a = true
    · simp [h, h2]
    · simp [h, h2]
theorem slt_asymm {a b : ByteArray} (h : slt a b = true) : ¬ slt b a = true := fun k => by have := slt_trans h k; rw [slt_irrefl] at this; cases this
theorem cmp_S : Cmp cS where
  eq := fun a b => by
    unfold cS
    by_cases h : slt a b = true
    · rw [if_pos h]; exact ⟨fun e => by omega, fun e => by rw [e, slt_irrefl] at h; cases h⟩
    · rw [if_neg h]
      by_cases h2 : slt b a = true
      · rw [if_pos h2]; exact ⟨fun e => by omega, fun e => by rw [e, slt_irrefl] at h2; cases h2⟩
      · rw [if_neg h2]; exact ⟨fun _ => slt_total (by simpa using h) (by simpa using h2), fun _ => rfl⟩
  anti := fun a b => by
    rw [cS_lt]
    unfold cS
    by_cases h : slt a b = true
    · rw [if_neg (slt_asymm h), if_pos h]; simp [h]
    · by_cases h2 : slt b a = true
      · rw [if_pos h2]; simp [h]
      · rw [if_neg h2, if_neg h]; simp [h]
  trans := fun a b d h k => by rw [cS_lt] at h k ⊢; exact slt_trans h k

abbrev TT := GT ByteArray Int
theorem put_new {t : TT} (h : Rise cS t.list) (ct : ByteArray) (i : Int) (l1 l2 : List (ByteArray × Int)) (e : t.list = l1 ++ l2) (h1 : ∀ p ∈ l1, slt p.1 ct = true) (h2 : ∀ p ∈ l2, slt ct p.1 = true) :
    (withT cS ct i t).list = l1 ++ (ct, i) :: l2 ∧ hasK cS ct t.list = false := by
  have hn : ∀ p ∈ t.list, p.1 ≠ ct := fun p hp => by
    rw [e] at hp
    rcases List.mem_append.mp hp with hp | hp
    · intro f; have := h1 p hp; rw [f, slt_irrefl] at this; cases this
    · intro f; have := h2 p hp; rw [f, slt_irrefl] at this; cases this
  refine ⟨?_, hasK_no cmp_S hn⟩
  rw [with_list cmp_S ct i t h, e]
  unfold below above
  rw [List.filter_append, List.filter_append, filter_whole _ l1 fun p hp => decide_eq_true (cS_lt.mpr (h1 p hp)), filter_none _ l2 fun p hp => decide_eq_false (fun f => slt_asymm (h2 p hp) (cS_lt.mp f)),
    filter_none _ l1 fun p hp => decide_eq_false (fun f => slt_asymm (h1 p hp) (cS_lt.mp f)), filter_whole _ l2 fun p hp => decide_eq_true (cS_lt.mpr (h2 p hp))]
  simp
theorem put_old {t : TT} (h : Rise cS t.list) (ct : ByteArray) (i j : Int) (l1 l2 : List (ByteArray × Int)) (e : t.list = l1 ++ (ct, j) :: l2) : (withT cS ct i t).list = l1 ++ (ct, i) :: l2 ∧ hasK cS ct t.list = true := by
  refine ⟨?_, hasK_yes cmp_S (v := j) (by rw [e]; simp)⟩
  rw [e] at h
  obtain ⟨_, _, h3, h4, _⟩ := rise_mid.mp h
  have h1 : ∀ p ∈ l1, slt p.1 ct = true := fun p hp => cS_lt.mp (h3 p hp)
  have h2 : ∀ p ∈ l2, slt ct p.1 = true := fun p hp => cS_lt.mp (h4 p hp)
  rw [with_list cmp_S ct i t (by rw [e]; exact h), e]
  unfold below above
  rw [List.filter_append, List.filter_append, List.filter_cons, List.filter_cons, filter_whole _ l1 fun p hp => decide_eq_true (cS_lt.mpr (h1 p hp)), filter_none _ l2 fun p hp => decide_eq_false (fun f => slt_asymm (h2 p hp) (cS_lt.mp f)),
    filter_none _ l1 fun p hp => decide_eq_false (fun f => slt_asymm (h1 p hp) (cS_lt.mp f)), filter_whole _ l2 fun p hp => decide_eq_true (cS_lt.mpr (h2 p hp))]
  simp [cmp_S.self]

/-- the tree whose keys are ss. -/
structure Keys (t : TT) (ss : List ByteArray) : Prop where
  fine : Fine cS t
  keys : t.list.map (·.1) = ss
theorem Keys.many {t : TT} {ss : List ByteArray} (h : Keys t ss) : t.many = ss.length := by rw [GT.many_list, ← h.keys, List.length_map]
theorem Keys.split {t : TT} {ss : List ByteArray} (h : Keys t ss) (k : Nat) : t.list = t.list.take k ++ t.list.drop k ∧ (t.list.take k).map (·.1) = ss.take k ∧ (t.list.drop k).map (·.1) = ss.drop k := by
  refine ⟨(List.take_append_drop k _).symm, ?_, ?_⟩
  · rw [List.map_take, h.keys]
  · rw [List.map_drop, h.keys]
theorem Keys.low {t : TT} {ss : List ByteArray} (h : Keys t ss) {k : Nat} {ct : ByteArray} (h1 : ∀ j, j < k → slt (ss.getD j ByteArray.empty) ct = true) (hk : k ≤ ss.length) : ∀ p ∈ t.list.take k, slt p.1 ct = true := fun p hp => by
  have : p.1 ∈ ss.take k := by rw [← (h.split k).2.1]; exact List.mem_map.mpr ⟨p, hp, rfl⟩
  obtain ⟨j, hj, e⟩ := List.getElem_of_mem this
  rw [List.length_take] at hj
  rw [← e, List.getElem_take]
  have := h1 j (by omega)
  simp only [List.getD, List.getElem?_eq_getElem (show j < ss.length by omega), Option.getD_some] at this
  exact this
theorem Keys.ins {t : TT} {ss : List ByteArray} (h : Keys t ss) {k : Nat} {ct : ByteArray} (i : Int) (hk : k ≤ ss.length) (h1 : ∀ j, j < k → slt (ss.getD j ByteArray.empty) ct = true) (h2 : k < ss.length → slt ct (ss.getD k ByteArray.empty) = true) :
    Keys (withT cS ct i t) (insL ss ct k) ∧ (withT cS ct i t).many = t.many + 1 := by
  obtain ⟨e, e1, e2⟩ := h.split k
  have hl : (t.list).length = ss.length := by rw [← h.keys, List.length_map]
  have hh : ∀ p ∈ t.list.drop k, slt ct p.1 = true := by
    cases hd : t.list.drop k with
    | nil => intro p hp; cases hp
    | cons q r =>
      have hkl : k < ss.length := by
        rw [← hl]
        have := congrArg List.length hd
        rw [List.length_drop, List.length_cons] at this
        omega
      have hq : slt ct q.1 = true := by
        have := h2 hkl
        rw [hd] at e2
        have e3 : ss.getD k ByteArray.empty = q.1 := by
          have := congrArg (·[0]?) e2
          simp only [List.map_cons, List.getElem?_cons_zero, List.getElem?_drop, Nat.add_zero] at this
          rw [List.getD, ← this]; rfl
        rw [e3] at this
        exact this
      intro p hp
      rcases List.mem_cons.mp hp with rfl | hp
      · exact hq
      · have hr : Rise cS (q :: r) := by rw [← hd]; exact h.fine.rise.sublist (List.drop_sublist _ _)
        exact slt_trans hq (cS_lt.mp ((List.pairwise_cons.mp hr).1 p hp))
  obtain ⟨a, b⟩ := put_new h.fine.rise ct i _ _ e (h.low h1 hk) hh
  refine ⟨⟨h.fine.put cmp_S ct i, ?_⟩, ?_⟩
  · rw [a, List.map_append, List.map_cons, e1, e2]
    simp [insL]
  · rw [with_many cmp_S ct i t h.fine.rise, b]; rfl
theorem Keys.same {t : TT} {ss : List ByteArray} (h : Keys t ss) {k : Nat} {ct : ByteArray} (i : Int) (hk : k < ss.length) (h2 : ss.getD k ByteArray.empty = ct) :
    Keys (withT cS ct i t) ss ∧ (withT cS ct i t).many = t.many := by
  obtain ⟨e, e1, e2⟩ := h.split k
  have hl : (t.list).length = ss.length := by rw [← h.keys, List.length_map]
  cases hd : t.list.drop k with
  | nil =>
    have := congrArg List.length hd
    rw [List.length_drop, List.length_nil] at this
    omega
  | cons q r =>
    rw [hd] at e e2
    have e3 : q.1 = ct := by
      have := congrArg (·[0]?) e2
      simp only [List.map_cons, List.getElem?_cons_zero, List.getElem?_drop, Nat.add_zero] at this
      rw [← h2, List.getD, ← this]; rfl
    obtain ⟨a, b⟩ := put_old h.fine.rise ct i q.2 _ _ (by rw [← e3]; exact e)
    refine ⟨⟨h.fine.put cmp_S ct i, ?_⟩, ?_⟩
    · rw [a, List.map_append, List.map_cons, e1]
      rw [List.map_cons, e3] at e2
      show ss.take k ++ ct :: r.map (·.1) = ss
      rw [e2, List.take_append_drop]
    · rw [with_many cmp_S ct i t h.fine.rise, b]; rfl

/-- what is wanted: of the first i keys those not less than from, as many as there may be. -/
def geF (fr : ByteArray) (ss : List ByteArray) : List ByteArray := ss.filter fun s => !slt s fr
def wantL (fr : ByteArray) (M : Nat) (ss : List ByteArray) (i : Nat) : List ByteArray := (geF fr (ss.take i)).take M
theorem want_yes {fr : ByteArray} {M : Nat} {ss : List ByteArray} {i : Nat} (hi : i < ss.length) (h1 : slt (ss.getD i ByteArray.empty) fr = false) (h2 : (wantL fr M ss i).length < M) : wantL fr M ss (i + 1) = wantL fr M ss i ++ [ss.getD i ByteArray.empty] := by
  have e : ss.getD i ByteArray.empty = ss[i] := by simp [List.getD, hi]
  rw [e] at h1 ⊢
  unfold wantL geF at h2 ⊢
  rw [List.take_succ_eq_append_getElem hi, List.filter_append, List.filter_cons, h1]
  rw [List.length_take] at h2
  have hl : (List.filter (fun s => !slt s fr) (ss.take i)).length < M := by omega
  simp only [Bool.not_false, if_true, List.filter_nil]
  rw [List.take_append, List.take_of_length_le (by omega)]
  congr 1
  rw [List.take_of_length_le (by simp; omega)]
theorem want_no {fr : ByteArray} {M : Nat} {ss : List ByteArray} {i : Nat} (hi : i < ss.length) (h : slt (ss.getD i ByteArray.empty) fr = true ∨ ¬ (wantL fr M ss i).length < M) : wantL fr M ss (i + 1) = wantL fr M ss i := by
  have e : ss.getD i ByteArray.empty = ss[i] := by simp [List.getD, hi]
  rw [e] at h
  unfold wantL geF at h ⊢
  rw [List.take_succ_eq_append_getElem hi, List.filter_append, List.filter_cons]
  rcases h with h | h
  · rw [h]; simp
  · rw [List.length_take] at h
    rw [List.take_append_of_le_length (by omega)]
theorem want_len (fr : ByteArray) (M : Nat) (ss : List ByteArray) (i : Nat) : (wantL fr M ss i).length ≤ M := by unfold wantL; rw [List.length_take]; omega
theorem from_keys {t : TT} {ss : List ByteArray} (h : Keys t ss) (fr : ByteArray) : (fromT cS fr t).map (·.1) = geF fr ss := by
  rw [from_list cmp_S fr t h.fine.rise, ← h.keys]
  unfold from_ geF
  induction t.list with
  | nil => rfl
  | cons p l ih =>
    simp only [List.filter_cons, List.map_cons]
    cases hp : slt p.1 fr with
    | true =>
      rw [decide_eq_false (by rw [cS_lt, hp]; simp)]
      simpa using ih
    | false =>
      rw [decide_eq_true (by rw [cS_lt, hp]; simp)]
      simpa using ih

def txF (M : Nat) (s : List ByteArray) (k : ByteArray) (_ : Int) : List ByteArray × Bool := (s ++ [k], decide (s.length + 1 < M))
theorem tx_run (M : Nat) (hM : M ≤ 256) (l : List (ByteArray × Int)) : ∀ s : List ByteArray, s.length < M →
    RunOk (txF M) (fun s _ => s.length ≤ 300) s l ∧ (runS (txF M) s l).1 = s ++ (l.map (·.1)).take (M - s.length) := by
  induction l with
  | nil => intro s hs; exact ⟨trivial, by simp [runS]⟩
  | cons p l ih =>
    intro s hs
    simp only [runS]
    by_cases hb : s.length + 1 < M
    · have hb' : (txF M s p.1 p.2).2 = true := decide_eq_true hb
      obtain ⟨i1, i2⟩ := ih (s ++ [p.1]) (by simpa using hb)
      rw [if_pos hb']
      refine ⟨⟨by show s.length ≤ 300; omega, fun _ => i1⟩, ?_⟩
      show (runS (txF M) (s ++ [p.1]) l).1 = _
      rw [i2, List.length_append, List.map_cons, show M - s.length = (M - (s.length + 1)) + 1 by omega, List.take_succ_cons]
      simp
    · have hb' : (txF M s p.1 p.2).2 = false := decide_eq_false hb
      rw [if_neg (by rw [hb']; simp)]
      refine ⟨⟨by show s.length ≤ 300; omega, fun h => by rw [hb'] at h; cases h⟩, ?_⟩
      show s ++ [p.1] = _
      rw [show M - s.length = 1 by omega, List.map_cons]
      simp
end Go.Proofs.Ytaghflionakhhaa
