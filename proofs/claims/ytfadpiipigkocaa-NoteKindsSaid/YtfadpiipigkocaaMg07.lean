/-
  Several texts in one: OnMath, RegInv, RegMono, ByBase.
-/
import Derived.Test.YtfadpiipigkocaaMg04
import Derived.Test.YtfadpiipigkocaaMg06
import Derived.Test.YtfadpiipigkocaaMg01
import Derived.Orders
namespace Go.Proofs.Ytfadpiipigkocaa
open Go.RowKit

/-- an entry: the number, the reply, where its records lie. -/
structure Ent where
  s : Int
  r : RepL
  p : Option Addr
  k : Nat
instance : Inhabited RepL := ⟨⟨0, 0, 0, false, [], [], [], false⟩⟩
instance : Inhabited Ent := ⟨⟨0, default, none, 0⟩⟩
def Ent.list (e : Ent) : List Value := [.int .i64 e.s, .int .i64 e.r.c, .int .i64 e.r.s, .int .i64 e.r.e, .bool e.r.fd, .string (strB e.r.v), .slice e.p e.r.ls.length e.k, .string (strB e.r.nx), .bool e.r.mr]
def Ent.val (e : Ent) : Value := .agg #[.int .i64 e.s, .int .i64 e.r.c, .int .i64 e.r.s, .int .i64 e.r.e, .bool e.r.fd, .string (strB e.r.v), .slice e.p e.r.ls.length e.k, .string (strB e.r.nx), .bool e.r.mr]
def ck (e : Ent) : Int := e.r.c
/-- what is told of an entry, but for where its records lie. -/
def Ent.sem (e : Ent) : Int × RepL := (e.s, e.r)
def sk (x : Int × RepL) : Int := x.2.c

section
variable {α : Type} [Inhabited α] {key : α → Int} {x : α} {L : List α} {c : Int} {k : Nat}
/-- the first place from which keys are not below c. -/
structure IdxAt (key : α → Int) (L : List α) (c : Int) (k : Nat) : Prop where
  le : k ≤ L.length
  lo : ∀ j, j < k → key (L.getD j default) < c
  hi : k < L.length → c ≤ key (L.getD k default)
theorem IdxAt.tail {y : α} {t : List α} {k : Nat} (h : IdxAt key (y :: t) c (k + 1)) : IdxAt key t c k :=
  ⟨by have := h.le; simpa using this, fun j hj => by have := h.lo (j + 1) (by omega); simpa using this, fun hk => by have := h.hi (by simpa using hk); simpa using this⟩
theorem IdxAt.find (h : IdxAt key L c k) (ho : OrdK key L) : findK key c L = if k < L.length ∧ key (L.getD k default) = c then some (L.getD k default) else none := by
  induction L generalizing k with
  | nil => simp [findK]
  | cons y t ih =>
    obtain ⟨h1, h2⟩ := List.pairwise_cons.1 ho
    rw [findK_cons]
    cases k with
    | zero =>
      have hh := h.hi (by simp)
      simp only [List.getD_cons_zero] at hh ⊢
      by_cases he : key y = c
      · rw [if_pos he, if_pos ⟨by simp, he⟩]
      · rw [if_neg he, if_neg (fun a => he a.2), findK_none fun e he' => by have := h1 e he'; omega]
    | succ k =>
      have := h.lo 0 (by omega)
      simp only [List.getD_cons_zero] at this
      rw [if_neg (by omega), ih h.tail h2]
      simp
theorem IdxAt.put (h : IdxAt key L (key x) k) (ho : OrdK key L) : putK key x L = L.take k ++ x :: L.drop (if k < L.length ∧ key (L.getD k default) = key x then k + 1 else k) := by
  induction L generalizing k with
  | nil =>
    have := h.le
    simp at this
    subst this
    simp [putK]
  | cons y t ih =>
    obtain ⟨h1, h2⟩ := List.pairwise_cons.1 ho
    cases k with
    | zero =>
      have hh := h.hi (by simp)
      simp only [List.getD_cons_zero] at hh ⊢
      unfold putK
      rw [if_neg (by omega)]
      by_cases he : key y = key x
      · rw [if_pos he, if_pos ⟨by simp, he⟩]; simp
      · rw [if_neg he, if_neg (fun a => he a.2)]; simp
    | succ k =>
      have := h.lo 0 (by omega)
      simp only [List.getD_cons_zero] at this
      unfold putK
      rw [if_pos this, ih h.tail h2]
      simp only [List.take_succ_cons, List.cons_append, List.length_cons, Nat.add_lt_add_iff_right, List.getD_cons_succ]
      split <;> simp
end

/-- is an answer new? -/
def newB (L : List Ent) (r : RepL) : Bool := decide (0 ≤ r.s) && (match findK ck r.c L with | none => true | some y => decide (y.s < r.s))
def noteE (L : List Ent) (x : Ent) : List Ent := if newB L x.r then putK ck x L else L
def newS (L : List (Int × RepL)) (r : RepL) : Bool := decide (0 ≤ r.s) && (match findK sk r.c L with | none => true | some y => decide (y.1 < r.s))
def noteS (L : List (Int × RepL)) (r : RepL) : List (Int × RepL) := if newS L r then putK sk (r.s, r) L else L
def grtB (L : List Ent) (x : Ent) : Bool := match findK ck x.r.c L with | none => true | some y => decide (y.s < x.s)
def mergeE (L : List Ent) (x : Ent) : List Ent := if grtB L x then putK ck x L else L
def semL (L : List Ent) : List (Int × RepL) := L.map Ent.sem
theorem sem_key (e : Ent) : sk e.sem = ck e := rfl
theorem sem_length {L M : List Ent} (h : semL L = semL M) : L.length = M.length := by
  have := congrArg List.length h
  simpa [semL] using this
theorem find_sem (c : Int) (L : List Ent) : findK sk c (semL L) = (findK ck c L).map Ent.sem := map_findK Ent.sem sem_key c
theorem put_sem (x : Ent) (L : List Ent) : semL (putK ck x L) = putK sk x.sem (semL L) := map_putK Ent.sem sem_key
theorem ord_sem {L : List Ent} : OrdK sk (semL L) ↔ OrdK ck L := ordK_map Ent.sem sem_key
theorem newB_sem (L : List Ent) (r : RepL) : newB L r = newS (semL L) r := by
  unfold newB newS
  rw [find_sem]
  cases findK ck r.c L <;> rfl
theorem note_sem {L : List Ent} {x : Ent} (h : x.s = x.r.s) : semL (noteE L x) = noteS (semL L) x.r := by
  unfold noteE noteS
  rw [newB_sem]
  split
  · rw [put_sem]
    unfold Ent.sem
    rw [h]
  · rfl
/-- a stored answer's number is its own, and not below nought. -/
def Fine (e : Ent) : Prop := e.s = e.r.s ∧ 0 ≤ e.s
theorem merge_note {L : List Ent} {x : Ent} (h : Fine x) : mergeE L x = noteE L x := by
  unfold mergeE noteE grtB newB
  rw [h.1, decide_eq_true (by rw [← h.1]; exact h.2), Bool.true_and]
theorem ord_note {L : List Ent} {x : Ent} (h : OrdK ck L) : OrdK ck (noteE L x) := by unfold noteE; split; exact ord_putK h; exact h
theorem ord_merge {L : List Ent} {x : Ent} (h : OrdK ck L) : OrdK ck (mergeE L x) := by unfold mergeE; split; exact ord_putK h; exact h
theorem mem_note {L : List Ent} {x e : Ent} (h : e ∈ noteE L x) : e = x ∧ newB L x.r = true ∨ e ∈ L := by
  unfold noteE at h
  split at h
  · rename_i hn
    rcases mem_putK h with h | h
    · exact Or.inl ⟨h, hn⟩
    · exact Or.inr h
  · exact Or.inr h
theorem newB_pos {L : List Ent} {r : RepL} (h : newB L r = true) : 0 ≤ r.s := by
  unfold newB at h
  rw [Bool.and_eq_true] at h
  simpa using h.1
theorem length_note {L : List Ent} {x : Ent} : (noteE L x).length ≤ L.length + 1 := by unfold noteE; split; exact length_putK; omega
theorem length_merge {L : List Ent} {x : Ent} : (mergeE L x).length ≤ L.length + 1 := by unfold mergeE; split; exact length_putK; omega

/-- merges of entries, told. -/
def mergeS (L : List (Int × RepL)) (x : Int × RepL) : List (Int × RepL) := if (match findK sk x.2.c L with | none => true | some y => decide (y.1 < x.1)) then putK sk x L else L
theorem merge_sem (L : List Ent) (x : Ent) : semL (mergeE L x) = mergeS (semL L) x.sem := by
  unfold mergeE mergeS grtB
  rw [find_sem]
  show semL (if (match findK ck x.r.c L with | none => true | some y => decide (y.s < x.s)) = true then _ else _) = _
  show _ = if (match (findK ck x.r.c L).map Ent.sem with | none => true | some y => decide (y.1 < x.s)) = true then _ else _
  cases findK ck x.r.c L with
  | none => simp only [if_true, Option.map_none]; exact put_sem x L
  | some y =>
    simp only [Option.map_some]
    show semL (if decide (y.s < x.s) = true then _ else _) = if decide (y.s < x.s) = true then _ else _
    split
    · exact put_sem x L
    · rfl
def mergesE (X : List Ent) : List Ent := X.foldl mergeE []
theorem ord_merges (X : List Ent) : ∀ (L : List Ent), OrdK ck L → OrdK ck (X.foldl mergeE L) := by
  induction X with
  | nil => intro L h; exact h
  | cons x t ih => intro L h; exact ih _ (ord_merge h)
theorem sem_merges (X : List Ent) : ∀ (L : List Ent), semL (X.foldl mergeE L) = (semL X).foldl mergeS (semL L) := by
  induction X with
  | nil => intro L; rfl
  | cons x t ih => intro L; rw [List.foldl_cons, ih, merge_sem]; rfl

/-- what is put behind all. -/
theorem put_last {X : List (Int × RepL)} {x : Int × RepL} (h : ∀ y ∈ X, sk y < sk x) : putK sk x X = X ++ [x] := by
  induction X with
  | nil => rfl
  | cons y t ih =>
    unfold putK
    rw [if_pos (h y (by simp)), ih fun z hz => h z (by simp [hz])]
    rfl
theorem merges_ord : ∀ (X P : List (Int × RepL)), OrdK sk (P ++ X) → X.foldl mergeS P = P ++ X
  | [], P, _ => by simp
  | x :: t, P, h => by
    have hb : ∀ y ∈ P, sk y < sk x := fun y hy => (List.pairwise_append.1 h).2.2 y hy x (by simp)
    have hn : mergeS P x = P ++ [x] := by
      unfold mergeS
      rw [findK_none fun e he => by have := hb e he; unfold sk at this ⊢; omega]
      simp only [if_true]
      exact put_last hb
    rw [List.foldl_cons, hn, merges_ord t (P ++ [x]) (by rw [List.append_assoc]; exact h), List.append_assoc]
    rfl
theorem merges_self (X : List (Int × RepL)) (h : OrdK sk X) : ∀ (Y : List (Int × RepL)), (∀ y ∈ Y, y ∈ X) → Y.foldl mergeS X = X
  | [], _ => rfl
  | y :: t, hm => by
    have hn : mergeS X y = X := by
      unfold mergeS
      rw [show y.2.c = sk y from rfl, findK_of_mem h (hm y (by simp))]
      simp
    rw [List.foldl_cons, hn]
    exact merges_self X h t fun z hz => hm z (by simp [hz])
/-- merged with itself it is itself; merged with nothing, too. -/
theorem merges_twice (X : List (Int × RepL)) (h : OrdK sk X) : (X ++ X).foldl mergeS [] = X := by
  rw [List.foldl_append, merges_ord X [] (by simpa using h), List.nil_append]
  exact merges_self X h X fun _ h => h
/-- notes of entries that are fine, told, are merges. -/
theorem notes_merges (X : List (Int × RepL)) (h : ∀ x ∈ X, x.1 = x.2.s ∧ 0 ≤ x.1) : ∀ (L : List (Int × RepL)), X.foldl (fun L x => noteS L x.2) L = X.foldl mergeS L := by
  induction X with
  | nil => intro L; rfl
  | cons x t ih =>
    intro L
    obtain ⟨h1, h2⟩ := h x (by simp)
    have e : noteS L x.2 = mergeS L x := by
      unfold noteS newS mergeS
      rw [← h1, decide_eq_true h2, Bool.true_and]
    rw [List.foldl_cons, List.foldl_cons, e]
    exact ih (fun y hy => h y (by simp [hy])) _
def aboveS (S : List (Int × RepL)) (c s : Int) : Bool := match findK sk c S with | none => decide (0 ≤ s) | some y => decide (y.1 < s)
def seeS (S : List (Int × RepL)) (c s : Int) : Int := if aboveS S c s then 0 else match findK sk c S with | none => 2 | some y => if y.1 = s then 1 else 2
end Go.Proofs.Ytfadpiipigkocaa
namespace Go.Gz

def dstOf (ops : Array Oper) (i : Nat) : Option Tmp := (ops[i]?).bind (·.dst)
/-- no two operations yield into one slot; each waits for earlier ones alone; all slots are in the frame. -/
def invB (ops : Array Oper) (m : Nat) : Bool :=
  (List.range ops.size).all fun i => ((List.range ops.size).all fun j => i == j || match dstOf ops i, dstOf ops j with | some a, some b => a != b | _, _ => true) &&
    (match dstOf ops i with | some d => decide (d < m) | none => true) && ((ops[i]?).map fun o => o.after.all fun e => !(Region.binds .any e) || decide (e.on < i)).getD true
/-- the operation that has yielded into slot j. -/
def whoAt (ops : Array Oper) (L : Nat → Bool) (j : Nat) : Option Nat := (List.range ops.size).find? fun i => L i && (dstOf ops i == some j)
/-- the frame behind the operations of L, which yielded vals. -/
def frA (base : Act) (ops : Array Oper) (L : Nat → Bool) (vals : Nat → Value) : Act :=
  { base with tmps := base.tmps.mapIdx fun j x => match whoAt ops L j with | some i => vals i | none => x }
def updV (vals : Nat → Value) (i : Nat) (v : Value) : Nat → Value := fun j => if j = i then v else vals j
def updL (L : Nat → Bool) (i : Nat) : Nat → Bool := fun j => if j = i then true else L j

theorem whoAt_some {ops : Array Oper} {L : Nat → Bool} {j i : Nat} (h : whoAt ops L j = some i) : i < ops.size ∧ L i = true ∧ dstOf ops i = some j := by
  have h1 := List.find?_some h
  have h2 := List.mem_of_find?_eq_some h
  simp only [Bool.and_eq_true, beq_iff_eq] at h1
  exact ⟨List.mem_range.1 h2, h1.1, h1.2⟩
theorem dst_lt {ops : Array Oper} {i : Nat} {d : Tmp} (h : dstOf ops i = some d) : i < ops.size := by
  unfold dstOf at h
  cases h1 : ops[i]? with
  | none => rw [h1] at h; cases h
  | some o => exact (Array.getElem?_eq_some_iff.1 h1).1
theorem invB_apart {ops : Array Oper} {m : Nat} (h : invB ops m = true) {i j : Nat} {d : Tmp} (hi : dstOf ops i = some d) (hj : dstOf ops j = some d) : i = j := by
  unfold invB at h
  rw [List.all_eq_true] at h
  have h1 := h i (List.mem_range.2 (dst_lt hi))
  simp only [Bool.and_eq_true, List.all_eq_true] at h1
  have h2 := h1.1.1 j (List.mem_range.2 (dst_lt hj))
  rw [hi, hj] at h2
  simpa using h2
theorem invB_lt {ops : Array Oper} {m : Nat} (h : invB ops m = true) {i : Nat} {d : Tmp} (hi : dstOf ops i = some d) : d < m := by
  unfold invB at h
  rw [List.all_eq_true] at h
  have h1 := h i (List.mem_range.2 (dst_lt hi))
  simp only [Bool.and_eq_true] at h1
  have h2 := h1.1.2
  rw [hi] at h2
  simpa using h2
theorem invB_back {ops : Array Oper} {m : Nat} (h : invB ops m = true) {i : Nat} {o : Oper} (hi : ops[i]? = some o) : ∀ e ∈ o.after, Region.binds .any e = true → e.on < i := by
  unfold invB at h
  rw [List.all_eq_true] at h
  have h1 := h i (List.mem_range.2 (Array.getElem?_eq_some_iff.1 hi).1)
  simp only [Bool.and_eq_true] at h1
  have h2 := h1.2
  rw [hi] at h2
  simp only [Option.map_some, Option.getD_some] at h2
  intro e he hb
  have h3 := Array.all_eq_true_iff_forall_mem.1 h2 e he
  rw [hb] at h3
  exact of_decide_eq_true (by simpa using h3)
theorem whoAt_of {ops : Array Oper} {m : Nat} (h : invB ops m = true) {L : Nat → Bool} {j i : Nat} (hL : L i = true) (hd : dstOf ops i = some j) : whoAt ops L j = some i := by
  cases hw : whoAt ops L j with
  | some k =>
    obtain ⟨_, _, h3⟩ := whoAt_some hw
    rw [invB_apart h h3 hd]
  | none =>
    unfold whoAt at hw
    rw [List.find?_eq_none] at hw
    have := hw i (List.mem_range.2 (dst_lt hd))
    rw [hL, hd] at this
    simp at this
theorem whoAt_upd {ops : Array Oper} {L : Nat → Bool} {i j : Nat} (hd : dstOf ops i ≠ some j) : whoAt ops (updL L i) j = whoAt ops L j := by
  unfold whoAt
  congr 1
  funext k
  unfold updL
  by_cases hk : k = i
  · subst hk
    have : (dstOf ops k == some j) = false := by simpa using hd
    rw [this, Bool.and_false, Bool.and_false]
  · rw [if_neg hk]
theorem frA_put {base : Act} {ops : Array Oper} (h : invB ops base.tmps.size = true) {L : Nat → Bool} {vals : Nat → Value} {i : Nat} (hL : L i = false) (v : Value) :
    (frA base ops L vals).put (dstOf ops i) v = frA base ops (updL L i) (updV vals i v) := by
  have key : ∀ j, dstOf ops i ≠ some j → ∀ x : Value, (match whoAt ops L j with | some k => vals k | none => x) = (match whoAt ops (updL L i) j with | some k => updV vals i v k | none => x) := by
    intro j hj x
    rw [whoAt_upd hj]
    cases hw : whoAt ops L j with
    | none => rfl
    | some k =>
      obtain ⟨_, h2, _⟩ := whoAt_some hw
      have hk : k ≠ i := fun e => by rw [e, hL] at h2; cases h2
      show vals k = updV vals i v k
      unfold updV
      rw [if_neg hk]
  cases hd : dstOf ops i with
  | none =>
    unfold frA Act.put
    simp only
    congr 1
    apply Array.ext_getElem?
    intro j
    simp only [Array.getElem?_mapIdx]
    cases base.tmps[j]? with
    | none => rfl
    | some x => exact congrArg some (key j (by rw [hd]; simp) x)
  | some d =>
    have hlt := invB_lt h hd
    unfold frA Act.put
    simp only
    congr 1
    apply Array.ext_getElem?
    intro j
    by_cases hj : d = j
    · subst hj
      rw [Array.getElem?_setIfInBounds_self]
      simp only [Array.size_mapIdx, Array.getElem?_mapIdx]
      rw [if_pos hlt]
      have hw := whoAt_of h (L := updL L i) (by unfold updL; rw [if_pos rfl]) hd
      rw [Array.getElem?_eq_getElem hlt]
      show _ = some (match whoAt ops (updL L i) d with | some k => updV vals i v k | none => _)
      rw [hw]
      show some v = some (updV vals i v i)
      unfold updV
      rw [if_pos rfl]
    · rw [Array.getElem?_setIfInBounds_ne hj]
      simp only [Array.getElem?_mapIdx]
      cases base.tmps[j]? with
      | none => rfl
      | some x => exact congrArg some (key j (by rw [hd]; intro e; exact hj (Option.some.inj e)) x)
/-- what has been yielded is read. -/
theorem frA_done {base : Act} {ops : Array Oper} (h : invB ops base.tmps.size = true) {L : Nat → Bool} {vals : Nat → Value} {k : Nat} {t : Tmp} (hL : L k = true) (hd : dstOf ops k = some t) :
    (frA base ops L vals).tmps.getD t undef = vals k := by
  have hlt := invB_lt h hd
  unfold frA
  simp only [Array.getD_eq_getD_getElem?, Array.getElem?_mapIdx, Array.getElem?_eq_getElem hlt, Option.map_some, Option.getD_some]
  rw [whoAt_of h hL hd]
/-- what no operation yields into stays. -/
theorem frA_base {base : Act} {ops : Array Oper} {L : Nat → Bool} {vals : Nat → Value} {t : Tmp} (hn : (List.range ops.size).all (fun i => dstOf ops i != some t) = true) :
    (frA base ops L vals).tmps.getD t undef = base.tmps.getD t undef := by
  have hw : whoAt ops L t = none := by
    cases hw : whoAt ops L t with
    | none => rfl
    | some k =>
      obtain ⟨h1, _, h3⟩ := whoAt_some hw
      have := List.all_eq_true.1 hn k (List.mem_range.2 h1)
      rw [h3] at this
      simp at this
  unfold frA
  simp only [Array.getD_eq_getD_getElem?, Array.getElem?_mapIdx]
  rw [hw]
  cases base.tmps[t]? <;> rfl
/-- a slot into which only an operation yields that has not run. -/
theorem frA_wait {base : Act} {ops : Array Oper} (h : invB ops base.tmps.size = true) {L : Nat → Bool} {vals : Nat → Value} {t : Tmp} {k : Nat} (hd : dstOf ops k = some t) (hL : L k = false) :
    (frA base ops L vals).tmps.getD t undef = base.tmps.getD t undef := by
  have hw : whoAt ops L t = none := by
    cases hw : whoAt ops L t with
    | none => rfl
    | some j =>
      obtain ⟨_, h2, h3⟩ := whoAt_some hw
      rw [invB_apart h h3 hd, hL] at h2
      cases h2
  unfold frA
  simp only [Array.getD_eq_getD_getElem?, Array.getElem?_mapIdx]
  rw [hw]
  cases base.tmps[t]? <;> rfl
theorem frA_none (base : Act) (ops : Array Oper) (vals : Nat → Value) : frA base ops (fun _ => false) vals = base := by
  have hw : ∀ j, whoAt ops (fun _ => false) j = none := fun j => by
    unfold whoAt
    rw [List.find?_eq_none]
    intro x _
    simp
  unfold frA
  simp only [hw]
  cases base with
  | mk t d =>
    simp only [Act.mk.injEq, and_true]
    apply Array.ext_getElem?
    intro j
    simp only [Array.getElem?_mapIdx]
    cases t[j]? <;> rfl
def putsL (vals : Nat → Value) : List Oper → Nat → Act → Act
  | [], _, a => a
  | o :: r, i, a => putsL vals r (i + 1) (a.put o.dst (vals i))
theorem frA_all {base : Act} {l : List Oper} (h : invB l.toArray base.tmps.size = true) (vals : Nat → Value) : frA base l.toArray (fun i => decide (i < l.length)) vals = putsL vals l 0 base := by
  have go : ∀ (r : List Oper) (i : Nat), i + r.length = l.length → l.drop i = r → frA base l.toArray (fun j => decide (j < l.length)) vals = putsL vals r i (frA base l.toArray (fun j => decide (j < i)) vals) := by
    intro r
    induction r with
    | nil =>
      intro i hi _
      simp only [List.length_nil, Nat.add_zero] at hi
      rw [hi]; rfl
    | cons o r ih =>
      intro i hi hr
      simp only [List.length_cons] at hi
      have ho : dstOf l.toArray i = o.dst := by
        unfold dstOf
        rw [List.getElem?_toArray]
        have : l[i]? = some o := by
          have := congrArg (·[0]?) hr
          simpa [List.getElem?_drop] using this
        rw [this]; rfl
      have hp := frA_put h (L := fun j => decide (j < i)) (vals := vals) (i := i) (by simp) (vals i)
      have e1 : updV vals i (vals i) = vals := by funext j; unfold updV; split <;> simp_all
      have e2 : updL (fun j => decide (j < i)) i = fun j => decide (j < i + 1) := by
        funext j; unfold updL; by_cases hj : j = i
        · rw [if_pos hj, hj]; simp
        · rw [if_neg hj]; simp only [decide_eq_decide]; omega
      rw [e1, e2, ho] at hp
      rw [putsL, hp]
      exact ih (i + 1) (by omega) (by rw [← List.drop_drop, hr]; rfl)
  have := go l 0 (by omega) rfl
  rw [this]
  congr 1
  rw [show (fun j => decide (j < 0)) = fun _ => false by funext j; simp]
  exact frA_none base _ vals

/-- what is asked of one operation. -/
def StepI (P : Program) (ops : Array Oper) (Q : Exit → Act → World → Prop) (_i : Nat) (o : Oper) (a : Act) (w : World) (J : Value → World → Prop) : Prop :=
  ∀ K : Act → World → Prop, (∀ v w', J v w' → K (a.put o.dst v) w') → if Region.wanted o (yielded ops a.tmps) = true then o.wp P a w K Q else K (a.put o.dst undef) w

theorem wpAny_inv {P : Program} {base : Act} {l : List Oper} {Q : Exit → Act → World → Prop} (hB : invB l.toArray base.tmps.size = true) (I : (Nat → Bool) → (Nat → Value) → World → Prop)
    (hstep : ∀ i o L vals w, l[i]? = some o → L i = false → (∀ e ∈ o.after, Region.binds .any e = true → L e.on = true) → I L vals w →
      StepI P l.toArray Q i o (frA base l.toArray L vals) w fun v w' => I (updL L i) (updV vals i v) w')
    (hend : ∀ vals w, I (fun i => decide (i < l.length)) vals w → Q .normal (putsL vals l 0 base) w) :
    ∀ (fuel : Nat) (listed : Array Bool) (L : Nat → Bool) (vals : Nat → Value) (w : World), listed.size = l.length → (∀ j, listed.getD j false = L j) → ((List.range l.length).filter fun j => !L j).length ≤ fuel → I L vals w →
      wpAny P .any l.toArray Q fuel listed (frA base l.toArray L vals) w := by
  have hready : ∀ (listed : Array Bool) (L : Nat → Bool), listed.size = l.length → (∀ j, listed.getD j false = L j) → Region.ready .any l.toArray listed = [] → L = fun i => decide (i < l.length) := by
    intro listed L hs hL hr
    have hall : ∀ n, ∀ i, i < n → i < l.length → L i = true := by
      intro n
      induction n with
      | zero => intro i h; omega
      | succ n ih =>
        intro i hi hil
        cases hLi : L i with
        | true => rfl
        | false =>
          exfalso
          have hin : i ∈ Region.ready .any l.toArray listed := by
            unfold Region.ready
            rw [List.mem_filter]
            refine ⟨List.mem_range.2 (by simpa using hil), ?_⟩
            have h1 : listed.getD i true = false := by
              have := hL i
              rw [hLi] at this
              simp only [Array.getD_eq_getD_getElem?, Array.getElem?_eq_getElem (show i < listed.size by omega), Option.getD_some] at this ⊢
              exact this
            rw [h1]
            have ho : l.toArray[i]? = some l[i] := by simp [hil]
            rw [ho]
            simp only [Bool.not_false, Bool.true_and, Option.map_some, Option.getD_some]
            rw [Array.all_eq_true_iff_forall_mem]
            intro e he
            cases hbn : Region.binds .any e with
            | false => rfl
            | true =>
              have hb := invB_back hB ho e he hbn
              rw [hL e.on, ih e.on (by omega) (by omega), Bool.or_true]
          rw [hr] at hin
          cases hin
    funext i
    by_cases hi : i < l.length
    · rw [hall (i + 1) i (by omega) hi]; simp [hi]
    · have := hL i
      rw [← this]
      simp [Array.getElem?_eq_none (show listed.size ≤ i by omega), hi]
  intro fuel
  induction fuel with
  | zero =>
    intro listed L vals w hs hL hf hI
    have hnone : ∀ j, j < l.length → L j = true := by
      intro j hj
      cases hLj : L j with
      | true => rfl
      | false =>
        exfalso
        have : j ∈ (List.range l.length).filter fun j => !L j := List.mem_filter.2 ⟨List.mem_range.2 hj, by rw [hLj]; rfl⟩
        have := List.length_pos_of_mem this
        omega
    have hLa : L = fun i => decide (i < l.length) := by
      funext i
      by_cases hi : i < l.length
      · rw [hnone i hi]; simp [hi]
      · have := hL i
        rw [← this]
        simp [Array.getElem?_eq_none (show listed.size ≤ i by omega), hi]
    refine ⟨?_, ?_⟩
    · unfold Region.ready
      rw [List.filter_eq_nil_iff]
      intro i hi
      have hi' : i < l.length := by simpa using List.mem_range.1 hi
      have h1 : listed.getD i true = true := by
        have := hL i
        rw [hnone i hi'] at this
        simp only [Array.getD_eq_getD_getElem?, Array.getElem?_eq_getElem (show i < listed.size by omega), Option.getD_some] at this ⊢
        exact this
      rw [h1]
      simp
    · rw [hLa, frA_all hB]
      exact hend vals w (hLa ▸ hI)
  | succ fuel ih =>
    intro listed L vals w hs hL hf hI
    refine ⟨fun hr => ?_, fun i hi => ?_⟩
    · have hLa := hready listed L hs hL hr
      rw [hLa, frA_all hB]
      exact hend vals w (hLa ▸ hI)
    · unfold Region.ready at hi
      rw [List.mem_filter] at hi
      obtain ⟨hi1, hi2⟩ := hi
      have hil : i < l.length := by simpa using List.mem_range.1 hi1
      have ho : l.toArray[i]? = some l[i] := by simp [hil]
      rw [ho] at hi2
      simp only [Bool.and_eq_true, Option.map_some, Option.getD_some, Bool.not_eq_true', Array.all_eq_true_iff_forall_mem] at hi2
      have hLi : L i = false := by
        rw [← hL i]
        have := hi2.1
        simp only [Array.getD_eq_getD_getElem?, Array.getElem?_eq_getElem (show i < listed.size by omega), Option.getD_some] at this ⊢
        exact this
      have hdep : ∀ e ∈ l[i].after, Region.binds .any e = true → L e.on = true := fun e he hb => by
        have := hi2.2 e he
        rw [hb, hL e.on] at this
        simpa using this
      have hst := hstep i l[i] L vals w (by simp [hil]) hLi hdep hI
      have hd : dstOf l.toArray i = l[i].dst := by unfold dstOf; rw [ho]; rfl
      have hK : ∀ v w', I (updL L i) (updV vals i v) w' → wpAny P .any l.toArray Q fuel (listed.setIfInBounds i true) ((frA base l.toArray L vals).put l[i].dst v) w' := by
        intro v w' hI'
        rw [← hd, frA_put hB hLi v]
        refine ih _ _ _ _ (by simpa using hs) (fun j => ?_) ?_ hI'
        · unfold updL
          by_cases hj : j = i
          · rw [if_pos hj, hj]
            simp [show i < listed.size by omega]
          · rw [if_neg hj, getD_set_ne _ (fun e => hj e.symm)]
            exact hL j
        · have hsub : ((List.range l.length).filter fun j => !updL L i j).length < ((List.range l.length).filter fun j => !L j).length := by
            have e : ((List.range l.length).filter fun j => !updL L i j) = ((List.range l.length).filter fun j => !L j).filter fun j => j != i := by
              rw [List.filter_filter]
              congr 1
              funext j
              unfold updL
              by_cases hj : j = i
              · simp [hj]
              · simp [hj]
            rw [e]
            refine List.length_filter_lt_length_iff_exists.2 ⟨i, List.mem_filter.2 ⟨List.mem_range.2 hil, by rw [hLi]; rfl⟩, by simp⟩
          omega
      have hgo := hst _ hK
      unfold wpOp
      rw [ho]
      simp only
      by_cases hw : Region.wanted l[i] (yielded l.toArray (frA base l.toArray L vals).tmps) = true
      · rw [if_pos hw] at hgo ⊢
        exact Or.inl hgo
      · rw [if_neg hw] at hgo ⊢
        exact hgo

theorem wp_region_inv {P : Program} {id : Nat} {a : Act} {w : World} {l : List Oper} {Q : Exit → Act → World → Prop} (hm : P.follows .mixedOrders = true) (hB : invB l.toArray a.tmps.size = true) (I : (Nat → Bool) → (Nat → Value) → World → Prop)
    (h0 : ∀ vals, I (fun _ => false) vals w.drew)
    (hstep : ∀ i o L vals w, l[i]? = some o → L i = false → (∀ e ∈ o.after, Region.binds .any e = true → L e.on = true) → I L vals w →
      StepI P l.toArray Q i o (frA a l.toArray L vals) w fun v w' => I (updL L i) (updV vals i v) w')
    (hend : ∀ vals w, I (fun i => decide (i < l.length)) vals w → Q .normal (putsL vals l 0 a) w) : (Code.region id l.toArray true).wp P Q a w := by
  refine wp_region_any hm ?_
  have := wpAny_inv hB I hstep hend l.toArray.size (Array.replicate l.toArray.size false) (fun _ => false) (fun _ => undef) w.drew (by simp) (fun j => by
    simp only [Array.getD_eq_getD_getElem?, Array.getElem?_replicate]; split <;> rfl) (by simpa using List.length_filter_le (fun j => !(fun _ => false) j) (List.range l.length)) (h0 _)
  rw [frA_none] at this
  exact this

/-- .. where what has run has all behind it that it waited for. -/
def Closed (l : List Oper) (L : Nat → Bool) : Prop := ∀ j o, l[j]? = some o → L j = true → ∀ e ∈ o.after, Region.binds .any e = true → L e.on = true
theorem wp_region_invC {P : Program} {id : Nat} {a : Act} {w : World} {l : List Oper} {Q : Exit → Act → World → Prop} (hm : P.follows .mixedOrders = true) (hB : invB l.toArray a.tmps.size = true) (I : (Nat → Bool) → (Nat → Value) → World → Prop)
    (h0 : ∀ vals, I (fun _ => false) vals w.drew)
    (hstep : ∀ i o L vals w, l[i]? = some o → L i = false → (∀ e ∈ o.after, Region.binds .any e = true → L e.on = true) → Closed l L → I L vals w →
      StepI P l.toArray Q i o (frA a l.toArray L vals) w fun v w' => I (updL L i) (updV vals i v) w')
    (hend : ∀ vals w, I (fun i => decide (i < l.length)) vals w → Q .normal (putsL vals l 0 a) w) : (Code.region id l.toArray true).wp P Q a w := by
  refine wp_region_inv hm hB (fun L vals w => Closed l L ∧ I L vals w) (fun vals => ⟨fun j o _ h => (by cases h), h0 vals⟩) (fun i o L vals w hi hL hdep hI K hK => ?_) (fun vals w hI => hend vals w hI.2)
  refine hstep i o L vals w hi hL hdep hI.1 hI.2 K fun v w' hJ => hK v w' ⟨fun j o' hj hLj e he hb => ?_, hJ⟩
  unfold updL at hLj ⊢
  by_cases h1 : e.on = i
  · rw [if_pos h1]
  · rw [if_neg h1]
    by_cases h2 : j = i
    · subst h2
      rw [hi] at hj
      injection hj with hj
      subst hj
      exact hdep e he hb
    · rw [if_neg h2] at hLj
      exact hI.1 j o' hj hLj e he hb

/-- an operation that yields by itself. -/
theorem step_run {P : Program} {ops : Array Oper} {Q : Exit → Act → World → Prop} {i : Nat} {o : Oper} {a : Act} {w w' : World} {J : Value → World → Prop} {v : Value} (hg : o.guard = none)
    (hr : (execOp a.eval o).run P w = .ok (.value v) w') (hJ : J v w') : StepI P ops Q i o a w J := by
  intro K hK
  have hw : Region.wanted o (yielded ops a.tmps) = true := by simp [Region.wanted, hg]
  rw [if_pos hw]
  unfold Oper.wp
  rw [hr]
  exact hK v w' hJ
/-- an operation that yields nothing (a store). -/
theorem stepI_skip {P : Program} {ops : Array Oper} {Q : Exit → Act → World → Prop} {i : Nat} {o : Oper} {a : Act} {w w' : World} {J : Value → World → Prop} (hg : o.guard = none)
    (hr : (execOp a.eval o).run P w = .ok .skip w') (hJ : J undef w') : StepI P ops Q i o a w J := by
  intro K hK
  have hw : Region.wanted o (yielded ops a.tmps) = true := by simp [Region.wanted, hg]
  rw [if_pos hw]
  unfold Oper.wp
  rw [hr]
  exact hK undef w' hJ
/-- an operation that calls a Go function. -/
theorem step_enter {P : Program} {ops : Array Oper} {Q : Exit → Act → World → Prop} {i : Nat} {o : Oper} {a : Act} {w w' : World} {J : Value → World → Prop} {f : FuncId} {args : Array Value} (hg : o.guard = none)
    (hr : (execOp a.eval o).run P w = .ok (.enter f args) w') (hC : Calls P f args w' fun e w'' => ∃ v, e = .returned v ∧ J v w'') : StepI P ops Q i o a w J := by
  intro K hK
  have hw : Region.wanted o (yielded ops a.tmps) = true := by simp [Region.wanted, hg]
  rw [if_pos hw]
  unfold Oper.wp
  rw [hr]
  refine hC.mono ?_
  rintro e w'' ⟨v, rfl, hJ⟩
  exact hK v w'' hJ
#print axioms wp_region_inv
end Go.Gz
namespace Go.Gz
open Go.RowKit

theorem wp_region_gen {P : Program} {id : Nat} {a : Act} {w : World} {l : List Oper} {Q : Exit → Act → World → Prop} (hm : P.follows .mixedOrders = true) (hB : invB l.toArray a.tmps.size = true)
    (V : Nat → Value → World → Prop) (J : (Nat → Bool) → World → Prop) (h0 : J (fun _ => false) w.drew)
    (hstep : ∀ i o L vals w', l[i]? = some o → L i = false → (∀ e ∈ o.after, Region.binds .any e = true → L e.on = true) → Closed l L → J L w' → (∀ k, L k = true → V k (vals k) w') →
      StepI P l.toArray Q i o (frA a l.toArray L vals) w' fun v w'' => V i v w'' ∧ J (updL L i) w'' ∧ ∀ k u, L k = true → V k u w' → V k u w'')
    (hend : ∀ vals w', J (fun i => decide (i < l.length)) w' → (∀ k, k < l.length → V k (vals k) w') → Q .normal (putsL vals l 0 a) w') : (Code.region id l.toArray true).wp P Q a w := by
  refine wp_region_invC hm hB (fun L vals w => J L w ∧ ∀ k, L k = true → V k (vals k) w) (fun vals => ⟨h0, fun k h => by cases h⟩) (fun i o L vals w' hi hL hdep hC hI K hK => ?_)
    (fun vals w' hI => hend vals w' hI.1 fun k hk => hI.2 k (by simpa using hk))
  refine hstep i o L vals w' hi hL hdep hC hI.1 hI.2 K fun v w'' ⟨h1, h2, h3⟩ => hK v w'' ⟨h2, fun k hk => ?_⟩
  unfold updL at hk
  unfold updV
  by_cases e : k = i
  · subst e; rw [if_pos rfl]; exact h1
  · rw [if_neg e] at hk; rw [if_neg e]; exact h3 k _ hk (hI.2 k hk)

/-- what a value is, in whatever world it stays so that grows. -/
structure VP where
  f : Value → World → Prop
  hf : ∀ v w w', f v w → Below w.heap.size w w' → f v w'
def VP.eq (x : Value) : VP := ⟨fun v _ => v = x, fun _ _ _ h _ => h⟩
def VP.any : VP := ⟨fun _ _ => True, fun _ _ _ h _ => h⟩

def VP.at (vs : List VP) (i : Nat) : VP := (vs[i]?).getD VP.any

theorem wp_region_mono {P : Program} {id : Nat} {a : Act} {w : World} {l : List Oper} {Q : Exit → Act → World → Prop} (hm : P.follows .mixedOrders = true) (hB : invB l.toArray a.tmps.size = true)
    (vs : List VP)
    (hstep : ∀ i o L vals w', l[i]? = some o → L i = false → (∀ e ∈ o.after, Region.binds .any e = true → L e.on = true) → Closed l L → Below w.heap.size w w' → (∀ k, L k = true → (VP.at vs k).f (vals k) w') →
      StepI P l.toArray Q i o (frA a l.toArray L vals) w' fun v w'' => (VP.at vs i).f v w'' ∧ Below w'.heap.size w' w'')
    (hend : ∀ vals w', Below w.heap.size w w' → (∀ k, k < l.length → (VP.at vs k).f (vals k) w') → Q .normal (putsL vals l 0 a) w') : (Code.region id l.toArray true).wp P Q a w := by
  refine wp_region_gen hm hB (fun i v w => (VP.at vs i).f v w) (fun _ w' => Below w.heap.size w w') (Below.refl _ _).drew ?_ hend
  intro i o L vals w' hi hL hdep hC hJ hV K hK
  refine hstep i o L vals w' hi hL hdep hC hJ hV K fun v w'' ⟨h1, h2⟩ => hK v w'' ⟨h1, hJ.trans (h2.mono hJ.size), fun k u _ h => (VP.at vs k).hf u w' w'' h h2⟩

/-- .. of values that are known whatever the world is. -/
def EqV (vs : List (Option Value)) (i : Nat) (v : Value) : Prop := ∀ x, vs[i]? = some (some x) → v = x

theorem wp_region_state {P : Program} {id : Nat} {a : Act} {w : World} {l : List Oper} {Q : Exit → Act → World → Prop} (hm : P.follows .mixedOrders = true) (hB : invB l.toArray a.tmps.size = true)
    (vs : List (Option Value)) (J : (Nat → Bool) → World → Prop) (h0 : J (fun _ => false) w.drew)
    (hstep : ∀ i o L vals w', l[i]? = some o → L i = false → (∀ e ∈ o.after, Region.binds .any e = true → L e.on = true) → Closed l L → J L w' → (∀ k, L k = true → EqV vs k (vals k)) →
      StepI P l.toArray Q i o (frA a l.toArray L vals) w' fun v w'' => EqV vs i v ∧ J (updL L i) w'')
    (hend : ∀ vals w', J (fun i => decide (i < l.length)) w' → (∀ k, k < l.length → EqV vs k (vals k)) → Q .normal (putsL vals l 0 a) w') : (Code.region id l.toArray true).wp P Q a w := by
  refine wp_region_gen hm hB (fun i v _ => EqV vs i v) J h0 ?_ hend
  intro i o L vals w' hi hL hdep hC hJ hV K hK
  exact hstep i o L vals w' hi hL hdep hC hJ hV K fun v w'' ⟨h1, h2⟩ => hK v w'' ⟨h1, h2, fun _ _ _ h => h⟩

theorem EqV.of {vs : List (Option Value)} {i : Nat} {v x : Value} (h : EqV vs i v) (e : vs[i]? = some (some x)) : v = x := h x e
theorem EqV.self {vs : List (Option Value)} {i : Nat} {v : Value} (e : vs[i]? = some (some v)) : EqV vs i v := fun x hx => by
  rw [e] at hx
  exact Option.some.inj (Option.some.inj hx)
theorem EqV.no {vs : List (Option Value)} {i : Nat} {v : Value} (e : vs[i]? = some none) : EqV vs i v := fun x hx => by
  rw [e] at hx
  cases hx
theorem EqV.mk {vs : List (Option Value)} {i : Nat} {v : Value} (h : ∀ x, vs[i]? = some (some x) → v = x) : EqV vs i v := h

/-- a way of operations each of which waits for the next. -/
def pathB (l : List Oper) : List Nat → Bool
  | [] => true
  | [_] => true
  | a :: b :: r => ((l[a]?).map fun o => o.after.any fun e => Region.binds .any e && e.on == b).getD false && pathB l (b :: r)
theorem Closed.path {l : List Oper} {L : Nat → Bool} (hC : Closed l L) : ∀ (ps : List Nat), pathB l ps = true → ∀ a, ps.head? = some a → L a = true → ∀ b, ps.getLast? = some b → L b = true
  | [], _, a, ha, _, _, _ => by cases ha
  | [x], _, a, ha, h, b, hb => by
    simp only [List.head?_cons, Option.some.injEq] at ha
    simp only [List.getLast?_singleton, Option.some.injEq] at hb
    rw [← hb, ha]; exact h
  | x :: y :: r, hp, a, ha, h, b, hb => by
    simp only [List.head?_cons, Option.some.injEq] at ha
    unfold pathB at hp
    rw [Bool.and_eq_true] at hp
    obtain ⟨h1, h2⟩ := hp
    cases ho : l[x]? with
    | none => rw [ho] at h1; simp at h1
    | some o =>
      rw [ho] at h1
      simp only [Option.map_some, Option.getD_some, Array.any_eq_true', Bool.and_eq_true, beq_iff_eq] at h1
      obtain ⟨e, he, hb1, hb2⟩ := h1
      have hy := hC x o ho (by rw [ha]; exact h) e he hb1
      rw [hb2] at hy
      exact Closed.path hC (y :: r) h2 y rfl hy b (by rw [← hb]; simp)

theorem yielded_of {ops : Array Oper} {tmps : Array Value} {j : Nat} {t : Tmp} {b : Bool} (hd : dstOf ops j = some t) (ht : tmps.getD t undef = .bool b) : yielded ops tmps j = some b := by
  unfold yielded
  unfold dstOf at hd
  rw [hd, Option.bind_some]
  rw [Array.getD_eq_getD_getElem?] at ht
  cases h : tmps[t]? with
  | none => rw [h] at ht; cases ht
  | some v => rw [h] at ht; rw [show v = .bool b from ht]
theorem wanted_open {o : Oper} {ops : Array Oper} {tmps : Array Value} {j : Nat} {t : Tmp} {b : Bool} (hg : o.guard = some (j, b)) (hd : dstOf ops j = some t) (ht : tmps.getD t undef = .bool b) : Region.wanted o (yielded ops tmps) = true := by
  unfold Region.wanted
  rw [hg]
  simp [yielded_of hd ht]
theorem wanted_shut {o : Oper} {ops : Array Oper} {tmps : Array Value} {j : Nat} {t : Tmp} {b b' : Bool} (hg : o.guard = some (j, b)) (hd : dstOf ops j = some t) (ht : tmps.getD t undef = .bool b') (hne : b' ≠ b) : Region.wanted o (yielded ops tmps) = false := by
  unfold Region.wanted
  rw [hg]
  simp [yielded_of hd ht, hne]

theorem wanted_undef {o : Oper} {ops : Array Oper} {tmps : Array Value} {j : Nat} {t : Tmp} {b : Bool} (hg : o.guard = some (j, b)) (hd : dstOf ops j = some t) (ht : tmps.getD t undef = undef) : Region.wanted o (yielded ops tmps) = false := by
  unfold Region.wanted
  rw [hg]
  have hy : yielded ops tmps j = none := by
    unfold yielded
    unfold dstOf at hd
    rw [hd, Option.bind_some]
    rw [Array.getD_eq_getD_getElem?] at ht
    cases h : tmps[t]? with
    | none => rfl
    | some v => rw [h] at ht; rw [show v = undef from ht]; rfl
  simp [hy]

/-- an operation behind a guard that does not hold. -/
theorem step_shut {P : Program} {ops : Array Oper} {Q : Exit → Act → World → Prop} {i : Nat} {o : Oper} {a : Act} {w : World} {J : Value → World → Prop} (hg : Region.wanted o (yielded ops a.tmps) = false) (hJ : J undef w) : StepI P ops Q i o a w J := by
  intro K hK
  rw [hg]
  simpa using hK undef w hJ
/-- an operation behind a guard that holds. -/
theorem step_run' {P : Program} {ops : Array Oper} {Q : Exit → Act → World → Prop} {i : Nat} {o : Oper} {a : Act} {w w' : World} {J : Value → World → Prop} {v : Value} (hg : Region.wanted o (yielded ops a.tmps) = true)
    (hr : (execOp a.eval o).run P w = .ok (.value v) w') (hJ : J v w') : StepI P ops Q i o a w J := by
  intro K hK
  rw [if_pos hg]
  unfold Oper.wp
  rw [hr]
  exact hK v w' hJ
theorem step_enter' {P : Program} {ops : Array Oper} {Q : Exit → Act → World → Prop} {i : Nat} {o : Oper} {a : Act} {w w' : World} {J : Value → World → Prop} {f : FuncId} {args : Array Value} (hg : Region.wanted o (yielded ops a.tmps) = true)
    (hr : (execOp a.eval o).run P w = .ok (.enter f args) w') (hC : Calls P f args w' fun e w'' => ∃ v, e = .returned v ∧ J v w'') : StepI P ops Q i o a w J := by
  intro K hK
  rw [if_pos hg]
  unfold Oper.wp
  rw [hr]
  refine hC.mono ?_
  rintro e w'' ⟨v, rfl, hJ⟩
  exact hK v w'' hJ
theorem stepI_skip' {P : Program} {ops : Array Oper} {Q : Exit → Act → World → Prop} {i : Nat} {o : Oper} {a : Act} {w w' : World} {J : Value → World → Prop} (hg : Region.wanted o (yielded ops a.tmps) = true)
    (hr : (execOp a.eval o).run P w = .ok .skip w') (hJ : J undef w') : StepI P ops Q i o a w J := by
  intro K hK
  rw [if_pos hg]
  unfold Oper.wp
  rw [hr]
  exact hK undef w' hJ
end Go.Gz
namespace Go.Proofs.Ytfadpiipigkocaa
open Go.RowKit Go.Gz

theorem row_take {w : World} {p : Option Addr} {l : List UInt8} (h : Row w .u8 p (nums l)) (k : Nat) : Row w .u8 p (nums (l.take k)) := by
  rcases h with h | ⟨b, o, hp, hlt, hc⟩
  · refine Or.inl ?_
    rw [nums_take, h, List.take_nil]
  · refine Or.inr ⟨b, o, hp, hlt, fun j hj => ?_⟩
    rw [nums_length, List.length_take] at hj
    rw [hc j (by rw [nums_length]; omega), nums_getD _ _ (by omega), nums_getD _ _ (by rw [List.length_take]; omega)]
    simp [List.getD, show j < k by omega]
theorem own_mono {w : World} {B B' : Nat} {e : TypeId} {k : IntKind} {v : Value} {xs : List Int} (h : Own w B e k v xs) (hB : B' ≤ B) : Own w B' e k v xs := by
  obtain ⟨h1, h2⟩ := h
  refine ⟨h1, ?_⟩
  rcases h2 with h2 | ⟨g, cap, cur, e, hg, r⟩
  · exact Or.inl h2
  · exact Or.inr ⟨g, cap, cur, e, by omega, r⟩
def ownVP (B : Nat) (l : List UInt8) : VP := ⟨fun v w => Own w B 5 .u8 v (nums l), fun _ _ _ h hb => below_own h hb⟩

theorem own_empty8 (w : World) (B : Nat) (hB : B ≤ w.heap.size) : Own (w.alloc (.cells #[] 5)) B 5 .u8 (.slice (some ⟨w.heap.size, 0, none⟩) 0 0) [] :=
  World.ownsRow_made w #[] 0 hB (by unfold maxLen; omega) rfl
end Go.Proofs.Ytfadpiipigkocaa
