/-
  Layer once, pure: entries; places in a sorted list; what is noted, what is merged.
-/
import Derived.Test.YtjlkfoaccllflaaPcReply
import Derived.Test.YtjlkfoaccllflaaIntMap
namespace Go.Proofs.Ytjlkfoaccllflaa
open Go.RowKit

/-- an entry: the number, the reply, where its records lie. -/
structure Ent where
  s : Int
  r : RepL
  p : Option Addr
  k : Nat
instance : Inhabited RepL := ⟨⟨0, 0, 0, false, [], [], [], false⟩⟩
instance : Inhabited Ent := ⟨⟨0, default, none, 0⟩⟩
def Ent.list (e : Ent) : List Value := [.int .i64 e.s, .int .i64 e.r.c, .int .i64 e.r.s, .int .i64 e.r.e, .bool e.r.fd, .string (strB e.r.v), .slice e.p e.r.ls.length e.k, .string (strB e.r.nx), .bool e.r.mr]
def Ent.val (e : Ent) : Value := .agg #[.int .i64 e.s, .int .i64 e.r.c, .int .i64 e.r.s, .int .i64 e.r.e, .bool e.r.fd, .string (strB e.r.v), .slice e.p e.r.ls.length e.k, .string (strB e.r.nx), .bool e.r.mr]
def ck (e : Ent) : Int := e.r.c
/-- what is told of an entry, but for where its records lie. -/
def Ent.sem (e : Ent) : Int × RepL := (e.s, e.r)
def sk (x : Int × RepL) : Int := x.2.c

section
variable {α : Type} [Inhabited α] {key : α → Int} {x : α} {L : List α} {c : Int} {k : Nat}
/-- the first place from which keys are not below c. -/
structure IdxAt (key : α → Int) (L : List α) (c : Int) (k : Nat) : Prop where
  le : k ≤ L.length
  lo : ∀ j, j < k → key (L.getD j default) < c
  hi : k < L.length → c ≤ key (L.getD k default)
theorem IdxAt.tail {y : α} {t : List α} {k : Nat} (h : IdxAt key (y :: t) c (k + 1)) : IdxAt key t c k :=
  ⟨by have := h.le; simpa using this, fun j hj => by have := h.lo (j + 1) (by omega); simpa using this, fun hk => by have := h.hi (by simpa using hk); simpa using this⟩
theorem IdxAt.find (h : IdxAt key L c k) (ho : OrdK key L) : findK key c L = if k < L.length ∧ key (L.getD k default) = c then some (L.getD k default) else none := by
  induction L generalizing k with
  | nil => simp [findK]
  | cons y t ih =>
    obtain ⟨h1, h2⟩ := List.pairwise_cons.1 ho
    rw [findK_cons]
    cases k with
    | zero =>
      have hh := h.hi (by simp)
      simp only [List.getD_cons_zero] at hh ⊢
      by_cases he : key y = c
      · rw [if_pos he, if_pos ⟨by simp, he⟩]
      · rw [if_neg he, if_neg (fun a => he a.2), findK_none fun e he' => by have := h1 e he'; omega]
    | succ k =>
      have := h.lo 0 (by omega)
      simp only [List.getD_cons_zero] at this
      rw [if_neg (by omega), ih h.tail h2]
      simp
theorem IdxAt.put (h : IdxAt key L (key x) k) (ho : OrdK key L) : putK key x L = L.take k ++ x :: L.drop (if k < L.length ∧ key (L.getD k default) = key x then k + 1 else k) := by
  induction L generalizing k with
  | nil =>
    have := h.le
    simp at this
    subst this
    simp [putK]
  | cons y t ih =>
    obtain ⟨h1, h2⟩ := List.pairwise_cons.1 ho
    cases k with
    | zero =>
      have hh := h.hi (by simp)
      simp only [List.getD_cons_zero] at hh ⊢
      unfold putK
      rw [if_neg (by omega)]
      by_cases he : key y = key x
      · rw [if_pos he, if_pos ⟨by simp, he⟩]; simp
      · rw [if_neg he, if_neg (fun a => he a.2)]; simp
    | succ k =>
      have := h.lo 0 (by omega)
      simp only [List.getD_cons_zero] at this
      unfold putK
      rw [if_pos this, ih h.tail h2]
      simp only [List.take_succ_cons, List.cons_append, List.length_cons, Nat.add_lt_add_iff_right, List.getD_cons_succ]
      split <;> simp
end

/-- is an answer new? -/
def newB (L : List Ent) (r : RepL) : Bool := decide (0 ≤ r.s) && (match findK ck r.c L with | none => true | some y => decide (y.s < r.s))
def noteE (L : List Ent) (x : Ent) : List Ent := if newB L x.r then putK ck x L else L
def newS (L : List (Int × RepL)) (r : RepL) : Bool := decide (0 ≤ r.s) && (match findK sk r.c L with | none => true | some y => decide (y.1 < r.s))
def noteS (L : List (Int × RepL)) (r : RepL) : List (Int × RepL) := if newS L r then putK sk (r.s, r) L else L
def grtB (L : List Ent) (x : Ent) : Bool := match findK ck x.r.c L with | none => true | some y => decide (y.s < x.s)
def mergeE (L : List Ent) (x : Ent) : List Ent := if grtB L x then putK ck x L else L
def semL (L : List Ent) : List (Int × RepL) := L.map Ent.sem
theorem sem_key (e : Ent) : sk e.sem = ck e := rfl
theorem sem_length {L M : List Ent} (h : semL L = semL M) : L.length = M.length := by
  have := congrArg List.length h
  simpa [semL] using this
theorem find_sem (c : Int) (L : List Ent) : findK sk c (semL L) = (findK ck c L).map Ent.sem := map_findK Ent.sem sem_key c
theorem put_sem (x : Ent) (L : List Ent) : semL (putK ck x L) = putK sk x.sem (semL L) := map_putK Ent.sem sem_key
theorem ord_sem {L : List Ent} : OrdK sk (semL L) ↔ OrdK ck L := ordK_map Ent.sem sem_key
theorem newB_sem (L : List Ent) (r : RepL) : newB L r = newS (semL L) r := by
  unfold newB newS
  rw [find_sem]
  cases findK ck r.c L <;> rfl
theorem note_sem {L : List Ent} {x : Ent} (h : x.s = x.r.s) : semL (noteE L x) = noteS (semL L) x.r := by
  unfold noteE noteS
  rw [newB_sem]
  split
  · rw [put_sem]
    unfold Ent.sem
    rw [h]
  · rfl
/-- a stored answer's number is its own, and not below nought. -/
def Fine (e : Ent) : Prop := e.s = e.r.s ∧ 0 ≤ e.s
theorem merge_note {L : List Ent} {x : Ent} (h : Fine x) : mergeE L x = noteE L x := by
  unfold mergeE noteE grtB newB
  rw [h.1, decide_eq_true (by rw [← h.1]; exact h.2), Bool.true_and]
theorem ord_note {L : List Ent} {x : Ent} (h : OrdK ck L) : OrdK ck (noteE L x) := by unfold noteE; split; exact ord_putK h; exact h
theorem ord_merge {L : List Ent} {x : Ent} (h : OrdK ck L) : OrdK ck (mergeE L x) := by unfold mergeE; split; exact ord_putK h; exact h
theorem mem_note {L : List Ent} {x e : Ent} (h : e ∈ noteE L x) : e = x ∧ newB L x.r = true ∨ e ∈ L := by
  unfold noteE at h
  split at h
  · rename_i hn
    rcases mem_putK h with h | h
    · exact Or.inl ⟨h, hn⟩
    · exact Or.inr h
  · exact Or.inr h
theorem newB_pos {L : List Ent} {r : RepL} (h : newB L r = true) : 0 ≤ r.s := by
  unfold newB at h
  rw [Bool.and_eq_true] at h
  simpa using h.1
theorem length_note {L : List Ent} {x : Ent} : (noteE L x).length ≤ L.length + 1 := by unfold noteE; split; exact length_putK; omega
theorem length_merge {L : List Ent} {x : Ent} : (mergeE L x).length ≤ L.length + 1 := by unfold mergeE; split; exact length_putK; omega

/-- merges of entries, told. -/
def mergeS (L : List (Int × RepL)) (x : Int × RepL) : List (Int × RepL) := if (match findK sk x.2.c L with | none => true | some y => decide (y.1 < x.1)) then putK sk x L else L
theorem merge_sem (L : List Ent) (x : Ent) : semL (mergeE L x) = mergeS (semL L) x.sem := by
  unfold mergeE mergeS grtB
  rw [find_sem]
  show semL (if (match findK ck x.r.c L with | none => true | some y => decide (y.s < x.s)) = true then _ else _) = _
  show _ = if (match (findK ck x.r.c L).map Ent.sem with | none => true | some y => decide (y.1 < x.s)) = true then _ else _
  cases findK ck x.r.c L with
  | none => simp only [if_true, Option.map_none]; exact put_sem x L
  | some y =>
    simp only [Option.map_some]
    show semL (if decide (y.s < x.s) = true then _ else _) = if decide (y.s < x.s) = true then _ else _
    split
    · exact put_sem x L
    · rfl
def mergesE (X : List Ent) : List Ent := X.foldl mergeE []
theorem ord_merges (X : List Ent) : ∀ (L : List Ent), OrdK ck L → OrdK ck (X.foldl mergeE L) := by
  induction X with
  | nil => intro L h; exact h
  | cons x t ih => intro L h; exact ih _ (ord_merge h)
theorem sem_merges (X : List Ent) : ∀ (L : List Ent), semL (X.foldl mergeE L) = (semL X).foldl mergeS (semL L) := by
  induction X with
  | nil => intro L; rfl
  | cons x t ih => intro L; rw [List.foldl_cons, ih, merge_sem]; rfl

/-- what is put behind all. -/
theorem put_last {X : List (Int × RepL)} {x : Int × RepL} (h : ∀ y ∈ X, sk y < sk x) : putK sk x X = X ++ [x] := by
  induction X with
  | nil => rfl
  | cons y t ih =>
    unfold putK
    rw [if_pos (h y (by simp)), ih fun z hz => h z (by simp [hz])]
    rfl
theorem merges_ord : ∀ (X P : List (Int × RepL)), OrdK sk (P ++ X) → X.foldl mergeS P = P ++ X
  | [], P, _ => by simp
  | x :: t, P, h => by
    have hb : ∀ y ∈ P, sk y < sk x := fun y hy => (List.pairwise_append.1 h).2.2 y hy x (by simp)
    have hn : mergeS P x = P ++ [x] := by
      unfold mergeS
      rw [findK_none fun e he => by have := hb e he; unfold sk at this ⊢; omega]
      simp only [if_true]
      exact put_last hb
    rw [List.foldl_cons, hn, merges_ord t (P ++ [x]) (by rw [List.append_assoc]; exact h), List.append_assoc]
    rfl
theorem merges_self (X : List (Int × RepL)) (h : OrdK sk X) : ∀ (Y : List (Int × RepL)), (∀ y ∈ Y, y ∈ X) → Y.foldl mergeS X = X
  | [], _ => rfl
  | y :: t, hm => by
    have hn : mergeS X y = X := by
      unfold mergeS
      rw [show y.2.c = sk y from rfl, findK_of_mem h (hm y (by simp))]
      simp
    rw [List.foldl_cons, hn]
    exact merges_self X h t fun z hz => hm z (by simp [hz])
/-- merged with itself it is itself; merged with nothing, too. -/
theorem merges_twice (X : List (Int × RepL)) (h : OrdK sk X) : (X ++ X).foldl mergeS [] = X := by
  rw [List.foldl_append, merges_ord X [] (by simpa using h), List.nil_append]
  exact merges_self X h X fun _ h => h
/-- notes of entries that are fine, told, are merges. -/
theorem notes_merges (X : List (Int × RepL)) (h : ∀ x ∈ X, x.1 = x.2.s ∧ 0 ≤ x.1) : ∀ (L : List (Int × RepL)), X.foldl (fun L x => noteS L x.2) L = X.foldl mergeS L := by
  induction X with
  | nil => intro L; rfl
  | cons x t ih =>
    intro L
    obtain ⟨h1, h2⟩ := h x (by simp)
    have e : noteS L x.2 = mergeS L x := by
      unfold noteS newS mergeS
      rw [← h1, decide_eq_true h2, Bool.true_and]
    rw [List.foldl_cons, List.foldl_cons, e]
    exact ih (fun y hy => h y (by simp [hy])) _
end Go.Proofs.Ytjlkfoaccllflaa
