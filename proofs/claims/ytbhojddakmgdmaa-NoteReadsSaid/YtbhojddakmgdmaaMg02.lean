/-
  Several texts in one: SlBase, PcMath, PcBase.
-/
import Derived.Test.YtbhojddakmgdmaaMg01
import Derived.WalkLawsBesides
import Derived.WalkSpells
import Derived.Lib.MinMaxS
import Derived.Lib.AppendStr
namespace Go.Proofs.Ytbhojddakmgdmaa
open Go.RowKit

theorem ret_int {k : IntKind} {a b : Int} (h : a = b) : Ending.returned (.int k a) = .returned (.int k b) := by rw [h]

/-- 'string(b)' of a row of bytes. -/
theorem run_string (w : World) (l : List UInt8) (p : Option Addr) (c : Nat) (hp : Row w .u8 p (nums l)) :
    (convert 22 9 (.slice p l.length c)).run Try.prog w = .ok (.string ⟨l.toArray⟩) w := by
  rcases hp with h | ⟨b, off, rfl, hlt, hc⟩
  · have : l = [] := by simpa [nums] using h
    subst this
    show (convert 22 9 (.slice p 0 c)).run Try.prog w = _
    rw [run_convert_bytes_string w 22 9 5 p 0 c Try.underlying22 Try.underlying5 Try.underlying9]
    cases p <;> simp [Conv.bytesToString, loadCells]
    all_goals rfl
  · exact run_convert_bytes_back w 22 9 5 ⟨b, off, none⟩ c l Try.underlying22 Try.underlying5 Try.underlying9 (fun j hj => by
      rw [Addr.add_lit, hc j (by simpa using hj), nums_getD _ _ hj]
      simp [List.getD, hj])

/-- the cell of a row of bytes. -/
theorem byte_cell {W wr : World} {p : Option Addr} {l : List UInt8} (h : Row W .u8 p (nums l)) (hb : Below W.heap.size W wr) {j : Nat} (hj : j < l.length) : ∃ b o, p = some ⟨b, o, none⟩ ∧ b < W.heap.size ∧ wr.cell? ⟨b, o + j, none⟩ = some (.int .u8 ((l.getD j 0).toNat : Int)) := by
  obtain ⟨b, o, hp, hlt, hc⟩ := row_cell h hb (j := j) (by simpa using hj)
  exact ⟨b, o, hp, hlt, by rw [hc, nums_getD _ _ hj]⟩
theorem own_row {w : World} {B : Nat} {e : TypeId} {k : IntKind} {v : Value} {xs : List Int} (h : Own w B e k v xs) : ∃ p c, v = .slice p xs.length c ∧ xs.length ≤ c ∧ (p = none → c = 0) ∧ Row w k p xs := by
  obtain ⟨q, d, rfl, h1, h2⟩ := Own.row h
  refine ⟨q, d, rfl, h1, fun hq => ?_, h2⟩
  subst hq
  obtain ⟨_, ⟨h3, _⟩ | ⟨g, cap, cur, h3, _⟩⟩ := h
  · injection h3
  · injection h3 with h3; cases h3
theorem below_own {w w' : World} {B : Nat} {e : TypeId} {k : IntKind} {v : Value} {xs : List Int} (h : Own w B e k v xs) (hb : Below w.heap.size w w') : Own w' B e k v xs := by
  obtain ⟨h1, h2⟩ := h
  refine ⟨h1, ?_⟩
  rcases h2 with h2 | ⟨g, cap, cur, e, hg, hh, hc, hm, hs, ht⟩
  · exact Or.inl h2
  · exact Or.inr ⟨g, cap, cur, e, hg, by rw [hb.block g (Array.getElem?_eq_some_iff.1 hh).1]; exact hh, hc, hm, hs, ht⟩
end Go.Proofs.Ytbhojddakmgdmaa
namespace Go.Proofs.Ytbhojddakmgdmaa

/-- how a thing is written, and read from what bytes begin with: the thing and what is left, or an error (7: too short, 5: no form). -/
structure Codec (α : Type) where
  enc : α → List UInt8
  ok : α → Prop
  dec : List UInt8 → Except Nat (α × List UInt8)
  rt : ∀ a r, ok a → dec (enc a ++ r) = .ok (a, r)
  cut : ∀ a k, ok a → k < (enc a).length → dec ((enc a).take k) = .error 7

/-- a number: four bytes, below 2^28. -/
def decN (b : List UInt8) : Except Nat (Nat × List UInt8) := if b.length < 4 then .error 7 else if 268435456 ≤ numL (b.take 4) then .error 5 else .ok (numL (b.take 4), b.drop 4)
def numC : Codec Nat where
  enc := be4
  ok n := n < 268435456
  dec := decN
  rt n r h := by
    have e : (be4 n ++ r).take 4 = be4 n := rfl
    have l : ¬ (be4 n ++ r).length < 4 := by simp [be4]
    unfold decN
    rw [if_neg l, e, numL_be4 n (by omega), if_neg (by omega)]
    rfl
  cut n k h hk := by
    have : ((be4 n).take k).length < 4 := by rw [List.length_take]; have : (be4 n).length = 4 := rfl; omega
    unfold decN
    rw [if_pos this]

/-- a text: its length, then its bytes. -/
def encT (s : List UInt8) : List UInt8 := be4 s.length ++ s
def decT (b : List UInt8) : Except Nat (List UInt8 × List UInt8) :=
  match decN b with
  | .error e => .error e
  | .ok (n, r) => if r.length < n then .error 7 else .ok (r.take n, r.drop n)
def textC : Codec (List UInt8) where
  enc := encT
  ok s := s.length < 268435456
  dec := decT
  rt s r h := by
    unfold decT encT
    rw [List.append_assoc, show decN (be4 s.length ++ (s ++ r)) = .ok (s.length, s ++ r) from numC.rt s.length (s ++ r) h]
    simp
  cut s k h hk := by
    have hl : (be4 s.length).length = 4 := rfl
    unfold encT at hk ⊢
    rw [List.length_append, hl] at hk
    unfold decT
    by_cases h4 : k < 4
    · rw [List.take_append_of_le_length (by omega), show decN ((be4 s.length).take k) = .error 7 from numC.cut s.length k h (by show k < 4; exact h4)]
    · rw [List.take_append, List.take_of_length_le (by omega), hl, show decN (be4 s.length ++ s.take (k - 4)) = .ok (s.length, s.take (k - 4)) from numC.rt s.length _ h]
      have : (s.take (k - 4)).length < s.length := by rw [List.length_take]; omega
      simp only [this, if_true]

/-- a truth: one byte. -/
def encB (x : Bool) : List UInt8 := [if x then 1 else 0]
def decB : List UInt8 → Except Nat (Bool × List UInt8)
  | [] => .error 7
  | x :: r => if x = 0 then .ok (false, r) else if x = 1 then .ok (true, r) else .error 5
def truthC : Codec Bool where
  enc := encB
  ok _ := True
  dec := decB
  rt x r _ := by cases x <;> rfl
  cut x k _ hk := by
    have : k = 0 := by simp [encB] at hk; exact hk
    subst this; rfl

/-- one behind the other. -/
def decP {α β : Type} (a : Codec α) (b : Codec β) (x : List UInt8) : Except Nat ((α × β) × List UInt8) :=
  match a.dec x with
  | .error e => .error e
  | .ok (u, r) => match b.dec r with
    | .error e => .error e
    | .ok (v, s) => .ok ((u, v), s)
def Codec.pair {α β : Type} (a : Codec α) (b : Codec β) : Codec (α × β) where
  enc x := a.enc x.1 ++ b.enc x.2
  ok x := a.ok x.1 ∧ b.ok x.2
  dec := decP a b
  rt x r h := by
    unfold decP
    rw [List.append_assoc, a.rt _ _ h.1]
    simp only
    rw [b.rt _ _ h.2]
  cut x k h hk := by
    rw [List.length_append] at hk
    unfold decP
    by_cases ha : k < (a.enc x.1).length
    · rw [List.take_append_of_le_length (by omega), a.cut _ _ h.1 ha]
    · rw [List.take_append, List.take_of_length_le (by omega), a.rt _ _ h.1]
      simp only
      rw [b.cut _ _ h.2 (by omega)]

/-- so many of a kind. -/
def encR {α : Type} (a : Codec α) : List α → List UInt8
  | [] => []
  | x :: l => a.enc x ++ encR a l
def decR {α : Type} (a : Codec α) : Nat → List UInt8 → Except Nat (List α × List UInt8)
  | 0, b => .ok ([], b)
  | n + 1, b => match a.dec b with
    | .error e => .error e
    | .ok (x, r) => match decR a n r with
      | .error e => .error e
      | .ok (l, s) => .ok (x :: l, s)
theorem decR_rt {α : Type} (a : Codec α) : ∀ (l : List α) (r : List UInt8), (∀ x ∈ l, a.ok x) → decR a l.length (encR a l ++ r) = .ok (l, r)
  | [], _, _ => rfl
  | x :: l, r, h => by
    simp only [encR, List.length_cons, decR]
    rw [List.append_assoc, a.rt _ _ (h x (by simp))]
    simp only
    rw [decR_rt a l r (fun y hy => h y (by simp [hy]))]
theorem decR_cut {α : Type} (a : Codec α) : ∀ (l : List α) (k : Nat), (∀ x ∈ l, a.ok x) → k < (encR a l).length → decR a l.length ((encR a l).take k) = .error 7
  | [], k, _, hk => by simp [encR] at hk
  | x :: l, k, h, hk => by
    simp only [encR, List.length_append] at hk
    simp only [encR, List.length_cons, decR]
    by_cases ha : k < (a.enc x).length
    · rw [List.take_append_of_le_length (by omega), a.cut _ _ (h x (by simp)) ha]
    · rw [List.take_append, List.take_of_length_le (by omega), a.rt _ _ (h x (by simp))]
      simp only
      rw [decR_cut a l _ (fun y hy => h y (by simp [hy])) (by omega)]
/-- how many, then all of them. -/
def decL {α : Type} (a : Codec α) (b : List UInt8) : Except Nat (List α × List UInt8) :=
  match decN b with
  | .error e => .error e
  | .ok (n, r) => decR a n r
def Codec.list {α : Type} (a : Codec α) : Codec (List α) where
  enc l := be4 l.length ++ encR a l
  ok l := l.length < 268435456 ∧ ∀ x ∈ l, a.ok x
  dec := decL a
  rt l r h := by
    unfold decL
    rw [List.append_assoc, show decN (be4 l.length ++ (encR a l ++ r)) = .ok (l.length, encR a l ++ r) from numC.rt l.length _ h.1]
    exact decR_rt a l r h.2
  cut l k h hk := by
    have hl : (be4 l.length).length = 4 := rfl
    rw [List.length_append, hl] at hk
    unfold decL
    by_cases h4 : k < 4
    · rw [List.take_append_of_le_length (by omega), show decN ((be4 l.length).take k) = .error 7 from numC.cut l.length k h.1 (by show k < 4; exact h4)]
    · rw [List.take_append, List.take_of_length_le (by omega), hl, show decN (be4 l.length ++ (encR a l).take (k - 4)) = .ok (l.length, (encR a l).take (k - 4)) from numC.rt l.length _ h.1]
      exact decR_cut a l _ h.2 (by omega)

/-- the whole of it: nothing may be left. -/
def readL {α : Type} (a : Codec α) (b : List UInt8) : Except Nat α :=
  match a.dec b with
  | .error e => .error e
  | .ok (x, r) => if r = [] then .ok x else .error 5
theorem read_enc {α : Type} (a : Codec α) (x : α) (h : a.ok x) : readL a (a.enc x) = .ok x := by
  have := a.rt x [] h
  rw [List.append_nil] at this
  unfold readL
  rw [this]; rfl
theorem read_cut {α : Type} (a : Codec α) (x : α) (h : a.ok x) (k : Nat) (hk : k < (a.enc x).length) : readL a ((a.enc x).take k) = .error 7 := by
  unfold readL
  rw [a.cut x k h hk]
theorem read_more {α : Type} (a : Codec α) (x : α) (h : a.ok x) (y : UInt8) (r : List UInt8) : readL a (a.enc x ++ y :: r) = .error 5 := by
  unfold readL
  rw [a.rt x _ h]; rfl
theorem Codec.inj {α : Type} (a : Codec α) {x y : α} (hx : a.ok x) (hy : a.ok y) (h : a.enc x = a.enc y) : x = y := by
  have h1 := read_enc a x hx
  rw [h, read_enc a y hy] at h1
  injection h1 with h1
  exact h1.symm

/-- P9.1: an ask, a reply. -/
def askC : Codec (Nat × Nat × Nat × Nat × List UInt8 × List UInt8 × List UInt8 × List UInt8) :=
  numC.pair (numC.pair (numC.pair (numC.pair (textC.pair (textC.pair (textC.pair textC))))))
def replyC : Codec (Nat × Nat × Nat × Bool × List UInt8 × List (List UInt8 × List UInt8) × List UInt8 × Bool) :=
  numC.pair (numC.pair (numC.pair (truthC.pair (textC.pair ((Codec.list (textC.pair textC)).pair (textC.pair truthC))))))
end Go.Proofs.Ytbhojddakmgdmaa
namespace Go.Proofs.Ytbhojddakmgdmaa
open Go.RowKit

theorem set_at {w : World} {b : Nat} {cs : Array Value} {t : TypeId} (h : w.heap[b]? = some (.cells cs t (0, 0))) (i : Nat) (u : Value) : (w.setCell ⟨b, i, none⟩ u).heap[b]? = some (.cells (cs.setIfInBounds i u) t (0, 0)) := by
  simp only [World.setCell, Array.getElem?_modify, if_true, h, Option.map_some]
  rfl
theorem cell_at {w : World} {b : Nat} {cs : Array Value} {t : TypeId} (h : w.heap[b]? = some (.cells cs t (0, 0))) (i : Nat) : w.cell? ⟨b, i, none⟩ = cs[i]? := by
  simp only [World.cell?, h]
  rfl
theorem frozen_at {w : World} {b : Nat} {cs : Array Value} {t : TypeId} (h : w.heap[b]? = some (.cells cs t (0, 0))) (i : Nat) : w.frozen? ⟨b, i, none⟩ = false := by
  simp [World.frozen?, h]

/-- the string of these bytes. -/
def strB (l : List UInt8) : ByteArray := ⟨l.toArray⟩
theorem strB_size (l : List UInt8) : (strB l).size = l.length := by show l.toArray.size = _; simp
theorem strB_list (l : List UInt8) : (strB l).data.toList = l := rfl
theorem strB_of (s : ByteArray) : strB s.data.toList = s := rfl
theorem strB_inj {a b : List UInt8} (h : strB a = strB b) : a = b := congrArg (fun s : ByteArray => s.data.toList) h
theorem cells_strB (l : List UInt8) : Lib.strCells (strB l) = (nums l).map (Value.int .u8) := by
  simp [Lib.strCells, strB, nums]

/-- a block of cells at which the own row lies has bytes. -/
theorem own_block {w : World} {B : Nat} {e : TypeId} {k : IntKind} {v : Value} {xs : List Int} (h : Own w B e k v xs) : ∀ g, v.ownBlock = some g → ∃ cur, w.heap[g]? = some (.cells cur e (0, 0)) := by
  obtain ⟨_, ⟨rfl, _⟩ | ⟨b, cap, cur, rfl, _, hh, _⟩⟩ := h
  · intro g hg; cases hg
  · intro g hg
    injection hg with hg
    subst hg
    exact ⟨cur, hh⟩

/-- what is neither a row of bytes nor a packer is as it was. -/
structure Fr (w w' : World) : Prop where
  size : w.heap.size ≤ w'.heap.size
  keep : ∀ (k : Nat) (c : Array Value) (t : TypeId) (f : Nat × Nat), w.heap[k]? = some (Obj.cells c t f) → t ≠ 5 → t ≠ 133 → w'.heap[k]? = some (Obj.cells c t f)
theorem Fr.refl (w : World) : Fr w w := ⟨Nat.le_refl _, fun _ _ _ _ h _ _ => h⟩
theorem Fr.trans {a b c : World} (h : Fr a b) (k : Fr b c) : Fr a c := ⟨Nat.le_trans h.size k.size, fun i x t f hx h1 h2 => k.keep i x t f (h.keep i x t f hx h1 h2) h1 h2⟩
theorem Fr.of_below {w w' : World} (h : Below w.heap.size w w') : Fr w w' := ⟨h.size, fun k c t f hk _ _ => by rw [h.block k (Array.getElem?_eq_some_iff.1 hk).1]; exact hk⟩

/-- a packer in memory: room for M bytes; what is laid, or that it refused. -/
structure PkAt (w : World) (B g M : Nat) (st : Option (List UInt8)) : Prop where
  lo : B ≤ g
  bd : ∀ b, st = some b → b.length ≤ M
  at_ : ∃ v, w.heap[g]? = some (.cells #[.int .i64 M, v, .bool st.isNone] 133 (0, 0)) ∧ Own w B 5 .u8 v (nums (st.getD []))
theorem PkAt.lt {w : World} {B g M : Nat} {st : Option (List UInt8)} (h : PkAt w B g M st) : g < w.heap.size := by
  obtain ⟨v, h1, _⟩ := h.at_
  exact (Array.getElem?_eq_some_iff.1 h1).1
theorem PkAt.below {w w' : World} {B g M : Nat} {st : Option (List UInt8)} (h : PkAt w B g M st) (hb : Below w.heap.size w w') : PkAt w' B g M st := by
  obtain ⟨v, h1, h2⟩ := h.at_
  exact ⟨h.lo, h.bd, v, by rw [hb.block g h.lt]; exact h1, below_own h2 hb⟩
theorem packer_bytes : (5 : TypeId) ≠ 133 := by decide
theorem PkAt.apart {w : World} {B g : Nat} {v : Value} {xs : List Int} {c : Array Value} (h : w.heap[g]? = some (.cells c 133 (0, 0))) (ho : Own w B 5 .u8 v xs) : some g ≠ v.ownBlock := by
  intro e
  obtain ⟨cur, hc⟩ := own_block ho g e.symm
  rw [h] at hc
  injection hc with hc
  injection hc with _ hc _
  exact packer_bytes hc.symm

/-- two words are stored. -/
theorem fr_set {w : World} {g o : Nat} {u : Value} {c : Array Value} (h : w.heap[g]? = some (.cells c 133 (0, 0))) : Fr w (w.setCell ⟨g, o, none⟩ u) :=
  ⟨by simp [World.setCell], fun k x t f hk _ hp => by
    have : k ≠ g := fun e => by
      subst e
      rw [h] at hk
      injection hk with hk
      injection hk with _ hk _
      exact hp hk.symm
    rw [Below.heap_setCell _ _ _ _ this]; exact hk⟩
theorem fr_grown {w w' : World} {B : Nat} {v : Value} {xs : List Int} (ho : Own w B 5 .u8 v xs) (hg : w.grownBy w' v.ownBlock) : Fr w w' :=
  ⟨hg.size, fun k x t f hk hu _ => by
    have : some k ≠ v.ownBlock := fun e => by
      obtain ⟨cur, hc⟩ := own_block ho k e.symm
      rw [hk] at hc
      injection hc with hc
      injection hc with _ hc _
      exact hu hc
    rw [hg.block k (Array.getElem?_eq_some_iff.1 hk).1 this]; exact hk⟩
theorem fr_alloc {w w' : World} (h : Fr w w') (o : Obj) : Fr w (w'.alloc o) := h.trans (Fr.of_below ((Below.refl _ _).alloc (Nat.le_refl _) _))

/-- own rows by a store in another block. -/
theorem own_set {w : World} {B : Nat} {k : IntKind} {e : TypeId} {v : Value} {xs : List Int} (h : Own w B e k v xs) {g o : Nat} {u : Value} (hg : some g ≠ v.ownBlock) : Own (w.setCell ⟨g, o, none⟩ u) B e k v xs := by
  obtain ⟨h1, h2⟩ := h
  refine ⟨h1, ?_⟩
  rcases h2 with h2 | ⟨b, cap, cur, rfl, hb, hh, r⟩
  · exact Or.inl h2
  · exact Or.inr ⟨b, cap, cur, rfl, hb, by rw [Below.heap_setCell _ _ _ _ (fun e => hg (by subst e; rfl))]; exact hh, r⟩

/-- append of a string onto a row that the call owns. -/
theorem wpList_own_str {w : World} {ops : Array Oper} {rest : List Oper} {o : Oper} {a : Act} {Q : Exit → Act → World → Prop} (hgd : o.guard = none) (sl x : Operand)
    (ho : o.op = .call { callee := .builtin .append, args := #[sl, x], argTypes := #[22, 9] })
    (B : Nat) (v : Value) (l : List UInt8) (hs : a.eval sl = v) (hown : Own w B 5 .u8 v (nums l)) (s : List UInt8) (hx : a.eval x = .string (strB s)) (hlen : l.length + s.length ≤ 1000000000000) (hB : B ≤ w.heap.size)
    (hK : ∀ v' w', Own w' B 5 .u8 v' (nums (l ++ s)) → w.grownBy w' v.ownBlock → wpList Try.prog ops Q rest (a.put o.dst v') w') : wpList Try.prog ops Q (o :: rest) a w := by
  obtain ⟨i0, hi, hz0, hz1, hz2⟩ := info_parts info_byte
  have hn : (nums l).length = l.length := nums_length l
  refine Lib.wpList_append_own_string w hgd sl x 22 9 ho B 5 i0 Try.underlying22 Try.underlying9 hi hz0 hz1 hz2 v (nums l).length ((nums l).map (Value.int .u8)) hs hown (strB s) hx (by rw [strB_size]; unfold maxLen; omega) (by rw [strB_size]; omega) hB ?_
  intro v' w' h1 h2 _
  refine hK v' w' ?_ h2
  unfold Own
  have hlen2 : (nums (l ++ s)).length = (nums l).length + (strB s).size := by rw [nums_append, List.length_append, nums_length s, strB_size]
  have hmap : (nums (l ++ s)).map (Value.int .u8) = (nums l).map (Value.int .u8) ++ Lib.strCells (strB s) := by rw [nums_append, List.map_append, cells_strB]
  rw [hlen2, hmap]
  exact h1
end Go.Proofs.Ytbhojddakmgdmaa
