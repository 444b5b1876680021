/-
  Several texts in one: PcMath, PcBase, PcPack, PcNums.
-/
import Derived.Test.YtfadpiipigkocaaMg01
import Derived.Lib.AppendStr
namespace Go.Proofs.Ytfadpiipigkocaa

/-- how a thing is written, and read from what bytes begin with: the thing and what is left, or an error (7: too short, 5: no form). -/
structure Codec (α : Type) where
  enc : α → List UInt8
  ok : α → Prop
  dec : List UInt8 → Except Nat (α × List UInt8)
  rt : ∀ a r, ok a → dec (enc a ++ r) = .ok (a, r)
  cut : ∀ a k, ok a → k < (enc a).length → dec ((enc a).take k) = .error 7

/-- a number: four bytes, below 2^28. -/
def decN (b : List UInt8) : Except Nat (Nat × List UInt8) := if b.length < 4 then .error 7 else if 268435456 ≤ numL (b.take 4) then .error 5 else .ok (numL (b.take 4), b.drop 4)
def numC : Codec Nat where
  enc := be4
  ok n := n < 268435456
  dec := decN
  rt n r h := by
    have e : (be4 n ++ r).take 4 = be4 n := rfl
    have l : ¬ (be4 n ++ r).length < 4 := by simp [be4]
    unfold decN
    rw [if_neg l, e, numL_be4 n (by omega), if_neg (by omega)]
    rfl
  cut n k h hk := by
    have : ((be4 n).take k).length < 4 := by rw [List.length_take]; have : (be4 n).length = 4 := rfl; omega
    unfold decN
    rw [if_pos this]

/-- a text: its length, then its bytes. -/
def encT (s : List UInt8) : List UInt8 := be4 s.length ++ s
def decT (b : List UInt8) : Except Nat (List UInt8 × List UInt8) :=
  match decN b with
  | .error e => .error e
  | .ok (n, r) => if r.length < n then .error 7 else .ok (r.take n, r.drop n)
def textC : Codec (List UInt8) where
  enc := encT
  ok s := s.length < 268435456
  dec := decT
  rt s r h := by
    unfold decT encT
    rw [List.append_assoc, show decN (be4 s.length ++ (s ++ r)) = .ok (s.length, s ++ r) from numC.rt s.length (s ++ r) h]
    simp
  cut s k h hk := by
    have hl : (be4 s.length).length = 4 := rfl
    unfold encT at hk ⊢
    rw [List.length_append, hl] at hk
    unfold decT
    by_cases h4 : k < 4
    · rw [List.take_append_of_le_length (by omega), show decN ((be4 s.length).take k) = .error 7 from numC.cut s.length k h (by show k < 4; exact h4)]
    · rw [List.take_append, List.take_of_length_le (by omega), hl, show decN (be4 s.length ++ s.take (k - 4)) = .ok (s.length, s.take (k - 4)) from numC.rt s.length _ h]
      have : (s.take (k - 4)).length < s.length := by rw [List.length_take]; omega
      simp only [this, if_true]

/-- a truth: one byte. -/
def encB (x : Bool) : List UInt8 := [if x then 1 else 0]
def decB : List UInt8 → Except Nat (Bool × List UInt8)
  | [] => .error 7
  | x :: r => if x = 0 then .ok (false, r) else if x = 1 then .ok (true, r) else .error 5
def truthC : Codec Bool where
  enc := encB
  ok _ := True
  dec := decB
  rt x r _ := by cases x <;> rfl
  cut x k _ hk := by
    have : k = 0 := by simp [encB] at hk; exact hk
    subst this; rfl

/-- one behind the other. -/
def decP {α β : Type} (a : Codec α) (b : Codec β) (x : List UInt8) : Except Nat ((α × β) × List UInt8) :=
  match a.dec x with
  | .error e => .error e
  | .ok (u, r) => match b.dec r with
    | .error e => .error e
    | .ok (v, s) => .ok ((u, v), s)
def Codec.pair {α β : Type} (a : Codec α) (b : Codec β) : Codec (α × β) where
  enc x := a.enc x.1 ++ b.enc x.2
  ok x := a.ok x.1 ∧ b.ok x.2
  dec := decP a b
  rt x r h := by
    unfold decP
    rw [List.append_assoc, a.rt _ _ h.1]
    simp only
    rw [b.rt _ _ h.2]
  cut x k h hk := by
    rw [List.length_append] at hk
    unfold decP
    by_cases ha : k < (a.enc x.1).length
    · rw [List.take_append_of_le_length (by omega), a.cut _ _ h.1 ha]
    · rw [List.take_append, List.take_of_length_le (by omega), a.rt _ _ h.1]
      simp only
      rw [b.cut _ _ h.2 (by omega)]

/-- so many of a kind. -/
def encR {α : Type} (a : Codec α) : List α → List UInt8
  | [] => []
  | x :: l => a.enc x ++ encR a l
def decR {α : Type} (a : Codec α) : Nat → List UInt8 → Except Nat (List α × List UInt8)
  | 0, b => .ok ([], b)
  | n + 1, b => match a.dec b with
    | .error e => .error e
    | .ok (x, r) => match decR a n r with
      | .error e => .error e
      | .ok (l, s) => .ok (x :: l, s)
theorem decR_rt {α : Type} (a : Codec α) : ∀ (l : List α) (r : List UInt8), (∀ x ∈ l, a.ok x) → decR a l.length (encR a l ++ r) = .ok (l, r)
  | [], _, _ => rfl
  | x :: l, r, h => by
    simp only [encR, List.length_cons, decR]
    rw [List.append_assoc, a.rt _ _ (h x (by simp))]
    simp only
    rw [decR_rt a l r (fun y hy => h y (by simp [hy]))]
theorem decR_cut {α : Type} (a : Codec α) : ∀ (l : List α) (k : Nat), (∀ x ∈ l, a.ok x) → k < (encR a l).length → decR a l.length ((encR a l).take k) = .error 7
  | [], k, _, hk => by simp [encR] at hk
  | x :: l, k, h, hk => by
    simp only [encR, List.length_append] at hk
    simp only [encR, List.length_cons, decR]
    by_cases ha : k < (a.enc x).length
    · rw [List.take_append_of_le_length (by omega), a.cut _ _ (h x (by simp)) ha]
    · rw [List.take_append, List.take_of_length_le (by omega), a.rt _ _ (h x (by simp))]
      simp only
      rw [decR_cut a l _ (fun y hy => h y (by simp [hy])) (by omega)]
/-- how many, then all of them. -/
def decL {α : Type} (a : Codec α) (b : List UInt8) : Except Nat (List α × List UInt8) :=
  match decN b with
  | .error e => .error e
  | .ok (n, r) => decR a n r
def Codec.list {α : Type} (a : Codec α) : Codec (List α) where
  enc l := be4 l.length ++ encR a l
  ok l := l.length < 268435456 ∧ ∀ x ∈ l, a.ok x
  dec := decL a
  rt l r h := by
    unfold decL
    rw [List.append_assoc, show decN (be4 l.length ++ (encR a l ++ r)) = .ok (l.length, encR a l ++ r) from numC.rt l.length _ h.1]
    exact decR_rt a l r h.2
  cut l k h hk := by
    have hl : (be4 l.length).length = 4 := rfl
    rw [List.length_append, hl] at hk
    unfold decL
    by_cases h4 : k < 4
    · rw [List.take_append_of_le_length (by omega), show decN ((be4 l.length).take k) = .error 7 from numC.cut l.length k h.1 (by show k < 4; exact h4)]
    · rw [List.take_append, List.take_of_length_le (by omega), hl, show decN (be4 l.length ++ (encR a l).take (k - 4)) = .ok (l.length, (encR a l).take (k - 4)) from numC.rt l.length _ h.1]
      exact decR_cut a l _ h.2 (by omega)

/-- the whole of it: nothing may be left. -/
def readL {α : Type} (a : Codec α) (b : List UInt8) : Except Nat α :=
  match a.dec b with
  | .error e => .error e
  | .ok (x, r) => if r = [] then .ok x else .error 5
theorem read_enc {α : Type} (a : Codec α) (x : α) (h : a.ok x) : readL a (a.enc x) = .ok x := by
  have := a.rt x [] h
  rw [List.append_nil] at this
  unfold readL
  rw [this]; rfl
theorem read_cut {α : Type} (a : Codec α) (x : α) (h : a.ok x) (k : Nat) (hk : k < (a.enc x).length) : readL a ((a.enc x).take k) = .error 7 := by
  unfold readL
  rw [a.cut x k h hk]
theorem read_more {α : Type} (a : Codec α) (x : α) (h : a.ok x) (y : UInt8) (r : List UInt8) : readL a (a.enc x ++ y :: r) = .error 5 := by
  unfold readL
  rw [a.rt x _ h]; rfl
theorem Codec.inj {α : Type} (a : Codec α) {x y : α} (hx : a.ok x) (hy : a.ok y) (h : a.enc x = a.enc y) : x = y := by
  have h1 := read_enc a x hx
  rw [h, read_enc a y hy] at h1
  injection h1 with h1
  exact h1.symm

/-- P9.1: an ask, a reply. -/
def askC : Codec (Nat × Nat × Nat × Nat × List UInt8 × List UInt8 × List UInt8 × List UInt8) :=
  numC.pair (numC.pair (numC.pair (numC.pair (textC.pair (textC.pair (textC.pair textC))))))
def replyC : Codec (Nat × Nat × Nat × Bool × List UInt8 × List (List UInt8 × List UInt8) × List UInt8 × Bool) :=
  numC.pair (numC.pair (numC.pair (truthC.pair (textC.pair ((Codec.list (textC.pair textC)).pair (textC.pair truthC))))))
end Go.Proofs.Ytfadpiipigkocaa
namespace Go.Proofs.Ytfadpiipigkocaa
open Go.RowKit

theorem set_at {w : World} {b : Nat} {cs : Array Value} {t : TypeId} (h : w.heap[b]? = some (.cells cs t (0, 0))) (i : Nat) (u : Value) : (w.setCell ⟨b, i, none⟩ u).heap[b]? = some (.cells (cs.setIfInBounds i u) t (0, 0)) := by
  simp only [World.setCell, Array.getElem?_modify, if_true, h, Option.map_some]
  rfl
theorem cell_at {w : World} {b : Nat} {cs : Array Value} {t : TypeId} (h : w.heap[b]? = some (.cells cs t (0, 0))) (i : Nat) : w.cell? ⟨b, i, none⟩ = cs[i]? := by
  simp only [World.cell?, h]
  rfl
theorem frozen_at {w : World} {b : Nat} {cs : Array Value} {t : TypeId} (h : w.heap[b]? = some (.cells cs t (0, 0))) (i : Nat) : w.frozen? ⟨b, i, none⟩ = false := by
  simp [World.frozen?, h]

/-- the string of these bytes. -/
def strB (l : List UInt8) : ByteArray := ⟨l.toArray⟩
theorem strB_size (l : List UInt8) : (strB l).size = l.length := by show l.toArray.size = _; simp
theorem strB_list (l : List UInt8) : (strB l).data.toList = l := rfl
theorem strB_of (s : ByteArray) : strB s.data.toList = s := rfl
theorem strB_inj {a b : List UInt8} (h : strB a = strB b) : a = b := congrArg (fun s : ByteArray => s.data.toList) h
theorem cells_strB (l : List UInt8) : Lib.strCells (strB l) = (nums l).map (Value.int .u8) := by
  simp [Lib.strCells, strB, nums]

/-- a block of cells at which the own row lies has bytes. -/
theorem own_block {w : World} {B : Nat} {e : TypeId} {k : IntKind} {v : Value} {xs : List Int} (h : Own w B e k v xs) : ∀ g, v.ownBlock = some g → ∃ cur, w.heap[g]? = some (.cells cur e (0, 0)) := by
  obtain ⟨_, ⟨rfl, _⟩ | ⟨b, cap, cur, rfl, _, hh, _⟩⟩ := h
  · intro g hg; cases hg
  · intro g hg
    injection hg with hg
    subst hg
    exact ⟨cur, hh⟩

/-- what is neither a row of bytes nor a packer is as it was. -/
structure Fr (w w' : World) : Prop where
  size : w.heap.size ≤ w'.heap.size
  keep : ∀ (k : Nat) (c : Array Value) (t : TypeId) (f : Nat × Nat), w.heap[k]? = some (Obj.cells c t f) → t ≠ 5 → t ≠ 124 → w'.heap[k]? = some (Obj.cells c t f)
theorem Fr.refl (w : World) : Fr w w := ⟨Nat.le_refl _, fun _ _ _ _ h _ _ => h⟩
theorem Fr.trans {a b c : World} (h : Fr a b) (k : Fr b c) : Fr a c := ⟨Nat.le_trans h.size k.size, fun i x t f hx h1 h2 => k.keep i x t f (h.keep i x t f hx h1 h2) h1 h2⟩
theorem Fr.of_below {w w' : World} (h : Below w.heap.size w w') : Fr w w' := ⟨h.size, fun k c t f hk _ _ => by rw [h.block k (Array.getElem?_eq_some_iff.1 hk).1]; exact hk⟩

/-- a packer in memory: room for M bytes; what is laid, or that it refused. -/
structure PkAt (w : World) (B g M : Nat) (st : Option (List UInt8)) : Prop where
  lo : B ≤ g
  bd : ∀ b, st = some b → b.length ≤ M
  at_ : ∃ v, w.heap[g]? = some (.cells #[.int .i64 M, v, .bool st.isNone] 124 (0, 0)) ∧ Own w B 5 .u8 v (nums (st.getD []))
theorem PkAt.lt {w : World} {B g M : Nat} {st : Option (List UInt8)} (h : PkAt w B g M st) : g < w.heap.size := by
  obtain ⟨v, h1, _⟩ := h.at_
  exact (Array.getElem?_eq_some_iff.1 h1).1
theorem PkAt.below {w w' : World} {B g M : Nat} {st : Option (List UInt8)} (h : PkAt w B g M st) (hb : Below w.heap.size w w') : PkAt w' B g M st := by
  obtain ⟨v, h1, h2⟩ := h.at_
  exact ⟨h.lo, h.bd, v, by rw [hb.block g h.lt]; exact h1, below_own h2 hb⟩
theorem packer_bytes : (5 : TypeId) ≠ 124 := by decide
theorem PkAt.apart {w : World} {B g : Nat} {v : Value} {xs : List Int} {c : Array Value} (h : w.heap[g]? = some (.cells c 124 (0, 0))) (ho : Own w B 5 .u8 v xs) : some g ≠ v.ownBlock := by
  intro e
  obtain ⟨cur, hc⟩ := own_block ho g e.symm
  rw [h] at hc
  injection hc with hc
  injection hc with _ hc _
  exact packer_bytes hc.symm

/-- two words are stored. -/
theorem fr_set {w : World} {g o : Nat} {u : Value} {c : Array Value} (h : w.heap[g]? = some (.cells c 124 (0, 0))) : Fr w (w.setCell ⟨g, o, none⟩ u) :=
  ⟨by simp [World.setCell], fun k x t f hk _ hp => by
    have : k ≠ g := fun e => by
      subst e
      rw [h] at hk
      injection hk with hk
      injection hk with _ hk _
      exact hp hk.symm
    rw [Below.heap_setCell _ _ _ _ this]; exact hk⟩
theorem fr_grown {w w' : World} {B : Nat} {v : Value} {xs : List Int} (ho : Own w B 5 .u8 v xs) (hg : w.grownBy w' v.ownBlock) : Fr w w' :=
  ⟨hg.size, fun k x t f hk hu _ => by
    have : some k ≠ v.ownBlock := fun e => by
      obtain ⟨cur, hc⟩ := own_block ho k e.symm
      rw [hk] at hc
      injection hc with hc
      injection hc with _ hc _
      exact hu hc
    rw [hg.block k (Array.getElem?_eq_some_iff.1 hk).1 this]; exact hk⟩
theorem fr_alloc {w w' : World} (h : Fr w w') (o : Obj) : Fr w (w'.alloc o) := h.trans (Fr.of_below ((Below.refl _ _).alloc (Nat.le_refl _) _))

/-- own rows by a store in another block. -/
theorem own_set {w : World} {B : Nat} {k : IntKind} {e : TypeId} {v : Value} {xs : List Int} (h : Own w B e k v xs) {g o : Nat} {u : Value} (hg : some g ≠ v.ownBlock) : Own (w.setCell ⟨g, o, none⟩ u) B e k v xs := by
  obtain ⟨h1, h2⟩ := h
  refine ⟨h1, ?_⟩
  rcases h2 with h2 | ⟨b, cap, cur, rfl, hb, hh, r⟩
  · exact Or.inl h2
  · exact Or.inr ⟨b, cap, cur, rfl, hb, by rw [Below.heap_setCell _ _ _ _ (fun e => hg (by subst e; rfl))]; exact hh, r⟩

/-- append of a string onto a row that the call owns. -/
theorem wpList_own_str {w : World} {ops : Array Oper} {rest : List Oper} {o : Oper} {a : Act} {Q : Exit → Act → World → Prop} (hgd : o.guard = none) (sl x : Operand)
    (ho : o.op = .call { callee := .builtin .append, args := #[sl, x], argTypes := #[50, 9] })
    (B : Nat) (v : Value) (l : List UInt8) (hs : a.eval sl = v) (hown : Own w B 5 .u8 v (nums l)) (s : List UInt8) (hx : a.eval x = .string (strB s)) (hlen : l.length + s.length ≤ 1000000000000) (hB : B ≤ w.heap.size)
    (hK : ∀ v' w', Own w' B 5 .u8 v' (nums (l ++ s)) → w.grownBy w' v.ownBlock → wpList Try.prog ops Q rest (a.put o.dst v') w') : wpList Try.prog ops Q (o :: rest) a w := by
  obtain ⟨i0, hi, hz0, hz1, hz2⟩ := info_parts info_byte
  have hn : (nums l).length = l.length := nums_length l
  refine Lib.wpList_append_own_string w hgd sl x 50 9 ho B 5 i0 Try.underlying50 Try.underlying9 hi hz0 hz1 hz2 v (nums l).length ((nums l).map (Value.int .u8)) hs hown (strB s) hx (by rw [strB_size]; unfold maxLen; omega) (by rw [strB_size]; omega) hB ?_
  intro v' w' h1 h2 _
  refine hK v' w' ?_ h2
  unfold Own
  have hlen2 : (nums (l ++ s)).length = (nums l).length + (strB s).size := by rw [nums_append, List.length_append, nums_length s, strB_size]
  have hmap : (nums (l ++ s)).map (Value.int .u8) = (nums l).map (Value.int .u8) ++ Lib.strCells (strB s) := by rw [nums_append, List.map_append, cells_strB]
  rw [hlen2, hmap]
  exact h1
end Go.Proofs.Ytfadpiipigkocaa
namespace Go.Proofs.Ytfadpiipigkocaa
open Go.RowKit

/-- pure: a packer's steps. -/
def layS (M : Nat) : Option (List UInt8) → List UInt8 → Option (List UInt8)
  | none, _ => none
  | some b, l => if b.length + l.length ≤ M then some (b ++ l) else none
def numS (M : Nat) (st : Option (List UInt8)) (x : Int) : Option (List UInt8) := if 0 ≤ x ∧ x ≤ 268435455 then layS M st (be4 x.toNat) else none
def textS (M : Nat) (st : Option (List UInt8)) (l : List UInt8) : Option (List UInt8) := layS M (numS M st l.length) l
theorem layS_bd {M : Nat} {st : Option (List UInt8)} {l b : List UInt8} (h : layS M st l = some b) : b.length ≤ M := by
  cases st with
  | none => cases h
  | some c =>
    by_cases hc : c.length + l.length ≤ M
    · rw [show layS M (some c) l = some (c ++ l) from if_pos hc] at h
      injection h with h
      subst h
      rw [List.length_append]; exact hc
    · rw [show layS M (some c) l = none from if_neg hc] at h
      cases h

/-- what a step of a packer leaves. -/
structure Laid (w : World) (B g M : Nat) (st : Option (List UInt8)) (w' : World) : Prop where
  pk : PkAt w' B g M st
  bl : Below B w w'
  fr : Fr w w'
theorem Laid.trans {w w1 w2 : World} {B g M : Nat} {st st2 : Option (List UInt8)} (h : Laid w B g M st w1) (k : Laid w1 B g M st2 w2) : Laid w B g M st2 w2 := ⟨k.pk, h.bl.trans k.bl, h.fr.trans k.fr⟩
theorem Laid.refl {w : World} {B g M : Nat} {st : Option (List UInt8)} (h : PkAt w B g M st) : Laid w B g M st w := ⟨h, Below.refl _ _, Fr.refl _⟩
theorem Laid.alloc {w w1 : World} {B g M : Nat} {st : Option (List UInt8)} (h : Laid w B g M st w1) (hB : B ≤ w.heap.size) (o : Obj) : Laid w B g M st (w1.alloc o) :=
  have hb : Below w1.heap.size w1 (w1.alloc o) := (Below.refl _ _).alloc (Nat.le_refl _) o
  ⟨h.pk.below hb, h.bl.trans (hb.mono (Nat.le_trans hB h.bl.size)), h.fr.trans (Fr.of_below hb)⟩

theorem below_set {B g o : Nat} {u : Value} (w : World) (hg : B ≤ g) : Below B w (w.setCell ⟨g, o, none⟩ u) := (Below.refl B w).setCell (p := ⟨g, o, none⟩) hg u

set_option maxHeartbeats 400000 in
theorem refuse_any (w : World) (B g M : Nat) (st : Option (List UInt8)) (h : PkAt w B g M st) :
    Calls Try.prog 71 #[.pointer (some ⟨g, 0, none⟩)] w fun e w' => e = .returned (.tuple #[]) ∧ Laid w B g M none w' := by
  obtain ⟨v, h1, h2⟩ := h.at_
  have c1 := cell_at h1 1
  have f1 := frozen_at h1 1
  have h3 := set_at h1 1 (.slice none 0 0)
  have c2 := cell_at h3 2
  have f2 := frozen_at h3 2
  have h4 := set_at h3 2 (.bool true)
  have HL := Lib.hid (show Laid w B g M none ((w.setCell ⟨g, 1, none⟩ (.slice none 0 0)).setCell ⟨g, 2, none⟩ (.bool true)) from
    ⟨⟨h.lo, (fun b hb => absurd hb (by simp)), _, h4, Own.nil _ _ _ _⟩, (below_set _ h.lo).trans (below_set _ h.lo), (fr_set h1).trans (fr_set h3)⟩)
  clear h h1 h2 h3 h4
  go_enter Try.func71, Try.ntmps71
  go_wp2_with fail
  exact bodyPost_end (v := .tuple #[]) (by simp [results, Try.results71]) rfl ⟨rfl, HL.out⟩

set_option maxHeartbeats 1000000 in
theorem lay_anyU (w : World) (B g M : Nat) (st : Option (List UInt8)) (l : List UInt8) (hB : B ≤ w.heap.size) (h : PkAt w B g M st) (hM : M ≤ 9223372036854775807) (hr : st = none ∨ M ≤ 1000000000000 ∨ (st.getD []).length + l.length ≤ 1000000000000) :
    Calls Try.prog 72 #[.pointer (some ⟨g, 0, none⟩), .string (strB l)] w fun e w' => e = .returned (.tuple #[]) ∧ Laid w B g M (layS M st l) w' := by
  obtain ⟨v, h1, h2⟩ := h.at_
  have HH := Lib.hid h
  cases st with
  | none =>
    simp only [Option.isNone_none] at h1
    have c0 := cell_at h1 0
    have c1 := cell_at h1 1
    have c2 := cell_at h1 2
    clear h h1 h2
    go_enter Try.func72, Try.ntmps72
    go_wp2_with fail
    exact bodyPost_end (v := .tuple #[]) (by simp [results, Try.results72]) rfl ⟨rfl, Laid.refl HH.out⟩
  | some b =>
    have hr := hr.resolve_left (by simp)
    have hbM := h.bd b rfl
    obtain ⟨p, c, rfl, hc, hp0, hrow⟩ := own_row h2
    simp only [Option.getD_some, nums_length, Option.isNone_some] at h1 hr h2
    obtain ⟨K, hK⟩ : ∃ K, b.length = K := ⟨_, rfl⟩
    rw [hK] at hr hbM h1 h2
    have d0 := fun m => cell_at (w := w.drewN m) h1 0
    have d1 := fun m => cell_at (w := w.drewN m) h1 1
    have c0 := cell_at h1 0
    have c1 := cell_at h1 1
    have c2 := cell_at h1 2
    have H1 := Lib.hid h1
    have HO := Lib.hid h2
    have HN := Lib.hid hK
    have HR := Lib.hid hr
    have hMz : (M : Int) ≤ 9223372036854775807 := by omega
    have hKz : (K : Int) ≤ (M : Int) := by omega
    have hsz := strB_size l
    by_cases hfit : K + l.length ≤ M
    · have hgt : decide ((M : Int) - (K : Int) < ((strB l).size : Int)) = false := by rw [hsz]; simp; omega
      have HS := Lib.hid (show layS M (some b) l = some (b ++ l) from (if_pos (by rw [hK]; exact hfit)))
      have hbd : b.length + l.length ≤ 1000000000000 := by omega
      have HL := Lib.hid (And.intro hbd (show (b ++ l).length ≤ M by rw [List.length_append]; omega))
      clear h h1 h2 hrow hp0 hr hsz hK hfit hbM hc hbd
      go_enter Try.func72, Try.ntmps72
      go_wp2_with fail
      go_quiet (fail)
      go_wp2_with (at_builtin; refine wpList_own_str rfl _ _ rfl B _ b rfl (HO.out.drewN _) l rfl HL.out.1 hB ?_)
      intro v' w2 hown hgrow
      obtain ⟨p', c', rfl, -⟩ := own_row hown
      obtain ⟨N, hN⟩ : ∃ N, (nums (b ++ l)).length = N := ⟨_, rfl⟩
      rw [hN] at hown ⊢
      clear hN
      have hna := PkAt.apart H1.out HO.out
      have h5 : w2.heap[g]? = some (.cells #[.int .i64 M, .slice p K c, .bool false] 124 (0, 0)) := by
        rw [hgrow.block g (by have := HH.out.lt; exact this) hna]; exact H1.out
      have c5 := cell_at h5 1
      have f5 := frozen_at h5 1
      have h6 := set_at h5 1 (.slice p' N c')
      have HB2 := Lib.hid ((below_drewN (Below.refl B w) nq).grown hgrow hB fun g hg => HO.out.lt g hg)
      have HL2 := Lib.hid (show Laid w B g M (layS M (some b) l) (w2.setCell ⟨g, 1, none⟩ (.slice p' N c')) from HS.out ▸
        ⟨⟨HH.out.lo, (fun x hx => by injection hx with hx; rw [← hx]; exact HL.out.2), _, h6, own_set hown (PkAt.apart h5 hown)⟩,
          HB2.out.trans (below_set _ HH.out.lo),
          ((Fr.of_below (below_drewN (Below.refl _ w) nq)).trans (fr_grown (HO.out.drewN nq) hgrow)).trans (fr_set h5)⟩)
      clear hown hgrow hna h5 h6 HB2
      go_wp2_with fail
      exact bodyPost_end (v := .tuple #[]) (by simp [results, Try.results72]) rfl ⟨rfl, HL2.out⟩
    · have hgt : decide ((M : Int) - (K : Int) < ((strB l).size : Int)) = true := by rw [hsz]; simp; omega
      have HS := Lib.hid (show layS M (some b) l = none from (if_neg (by rw [hK]; exact hfit)))
      have CR := Lib.hid (fun m => refuse_any (w.drewN m) B g M (some b) (h.below (below_drewN (Below.refl _ _) m)))
      clear h h1 h2 hrow hp0 hr hsz hK hfit hbM hc
      go_enter Try.func72, Try.ntmps72
      go_wp2_with fail
      go_quiet (fail)
      go_wp2_with fail
      refine (CR.out nq).mono ?_
      rintro e w2 ⟨rfl, hl2⟩
      have HL2 := Lib.hid (show Laid w B g M (layS M (some b) l) w2 from HS.out ▸ ⟨hl2.pk, (below_drewN (Below.refl _ _) nq).trans hl2.bl, (Fr.of_below (below_drewN (Below.refl _ w) nq)).trans hl2.fr⟩)
      clear hl2
      go_wp2_with fail
      exact bodyPost_end (v := .tuple #[]) (by simp [results, Try.results72]) rfl ⟨rfl, HL2.out⟩
theorem lay_any (w : World) (B g M : Nat) (st : Option (List UInt8)) (l : List UInt8) (hB : B ≤ w.heap.size) (h : PkAt w B g M st) (hM : M ≤ 9223372036854775807) (hr : M ≤ 1000000000000 ∨ (st.getD []).length + l.length ≤ 1000000000000) :
    Calls Try.prog 72 #[.pointer (some ⟨g, 0, none⟩), .string (strB l)] w fun e w' => e = .returned (.tuple #[]) ∧ Laid w B g M (layS M st l) w' := lay_anyU w B g M st l hB h hM (Or.inr hr)
end Go.Proofs.Ytfadpiipigkocaa
namespace Go.Proofs.Ytfadpiipigkocaa
open Go.RowKit

def numsS (M : Nat) (st : Option (List UInt8)) (xs : List Int) : Option (List UInt8) := xs.foldl (numS M) st
theorem numS_none (M : Nat) (x : Int) : numS M none x = none := by
  unfold numS
  by_cases h : 0 ≤ x ∧ x ≤ 268435455
  · rw [if_pos h]; rfl
  · rw [if_neg h]
theorem numsS_none (M : Nat) : ∀ xs, numsS M none xs = none
  | [] => rfl
  | x :: xs => by
    show numsS M (numS M none x) xs = none
    rw [numS_none]; exact numsS_none M xs
theorem numsS_snoc (M : Nat) (st : Option (List UInt8)) (xs : List Int) (k : Nat) (h : k < xs.length) : numsS M st (xs.take (k + 1)) = numS M (numsS M st (xs.take k)) (xs.getD k 0) := by
  rw [List.take_succ_eq_append_getElem h]
  unfold numsS
  rw [List.foldl_append]
  simp [List.getD, h]
theorem numsS_bad (M : Nat) (st : Option (List UInt8)) (xs : List Int) (k : Nat) (h : k < xs.length) (hb : ¬ (0 ≤ xs.getD k 0 ∧ xs.getD k 0 ≤ 268435455)) : numsS M st xs = none := by
  have h1 : numsS M st (xs.take (k + 1)) = none := by rw [numsS_snoc M st xs k h]; exact if_neg hb
  have h2 : numsS M st xs = numsS M (numsS M st (xs.take (k + 1))) (xs.drop (k + 1)) := by
    show _ = List.foldl _ (List.foldl _ _ _) _
    rw [← List.foldl_append, List.take_append_drop]; rfl
  rw [h2, h1]; exact numsS_none M _
theorem layS_len (M : Nat) (st : Option (List UInt8)) (l : List UInt8) : ((layS M st l).getD []).length ≤ (st.getD []).length + l.length := by
  cases st with
  | none => simp [layS]
  | some b =>
    by_cases h : b.length + l.length ≤ M
    · rw [show layS M (some b) l = some (b ++ l) from if_pos h]; simp
    · rw [show layS M (some b) l = none from if_neg h]; simp
theorem numS_len (M : Nat) (st : Option (List UInt8)) (x : Int) : ((numS M st x).getD []).length ≤ (st.getD []).length + 4 := by
  unfold numS
  by_cases h : 0 ≤ x ∧ x ≤ 268435455
  · rw [if_pos h]; exact layS_len M st (be4 x.toNat)
  · rw [if_neg h]; simp
theorem numsS_len (M : Nat) : ∀ (xs : List Int) (st : Option (List UInt8)), ((numsS M st xs).getD []).length ≤ (st.getD []).length + 4 * xs.length
  | [], st => by simp [numsS]
  | x :: xs, st => by
    have h1 := numS_len M st x
    have h2 := numsS_len M xs (numS M st x)
    show ((numsS M (numS M st x) xs).getD []).length ≤ _
    rw [List.length_cons]; omega

theorem pcNums_be4 (n : Nat) : nums (be4 n) = [(n : Int) / 16777216 % 256, (n : Int) / 65536 % 256, (n : Int) / 256 % 256, (n : Int) % 256] := by
  simp [nums, be4]

theorem nums_be4s (n : Nat) (h : (n : Int) ≤ 268435455) : nums (be4 n) = [(n : Int) / 16777216, (n : Int) / 65536 % 256, (n : Int) / 256 % 256, (n : Int) % 256] := by
  rw [pcNums_be4, show (n : Int) / 16777216 % 256 = (n : Int) / 16777216 by omega]
theorem conv_be4 (n : Nat) (h : (n : Int) ≤ 268435455) (w : World) :
    (convert 50 9 (.slice (some ⟨w.heap.size, 0, none⟩) 4 4)).run Try.prog (w.alloc (.cells #[.int .u8 ((n : Int) / 16777216), .int .u8 ((n : Int) / 65536 % 256), .int .u8 ((n : Int) / 256 % 256), .int .u8 ((n : Int) % 256)] 5)) = .ok (.string (strB (be4 n))) (w.alloc (.cells #[.int .u8 ((n : Int) / 16777216), .int .u8 ((n : Int) / 65536 % 256), .int .u8 ((n : Int) / 256 % 256), .int .u8 ((n : Int) % 256)] 5)) := by
  have h1 := row_lit w .u8 5 (nums (be4 n))
  rw [nums_be4s n h] at h1
  exact run_string _ (be4 n) _ 4 (by rw [nums_be4s n h]; exact h1)

theorem ints_at (xs : List Int) (k : Nat) (h : k < xs.length) : ((xs.map (Value.int .i64)).toArray)[k]? = some (.int .i64 (xs.getD k 0)) := by
  simp [List.getD, h]
theorem int_packer : (3 : TypeId) ≠ 5 ∧ (3 : TypeId) ≠ 124 := by decide
theorem string_packer : (9 : TypeId) ≠ 5 ∧ (9 : TypeId) ≠ 124 := by decide

set_option maxHeartbeats 2000000 in
theorem numbers_any (w : World) (B g M b0 : Nat) (st : Option (List UInt8)) (xs : List Int) (hB : B ≤ w.heap.size) (h : PkAt w B g M st) (hM : M ≤ 9223372036854775807) (hr : M ≤ 1000000000000 ∨ (st.getD []).length + 4 * xs.length ≤ 1000000000000)
    (hx : w.heap[b0]? = some (.cells (xs.map (Value.int .i64)).toArray 3 (0, 0))) (hn : xs.length ≤ 1000000000000) :
    Calls Try.prog 39 #[.pointer (some ⟨g, 0, none⟩), .slice (some ⟨b0, 0, none⟩) xs.length xs.length] w fun e w' => e = .returned (.tuple #[]) ∧ Laid w B g M (numsS M st xs) w' := by
  have HH := Lib.hid h
  have HX := Lib.hid hx
  have CL := Lib.hid (fun w1 s l h1 h2 h3 => lay_any w1 B g M s l h1 h2 hM h3)
  have CR := Lib.hid (fun w1 s h1 => refuse_any w1 B g M s h1)
  obtain ⟨n, hN⟩ : ∃ n, xs.length = n := ⟨_, rfl⟩
  rw [hN] at hr hn ⊢
  have HN := Lib.hid hN
  have HR := Lib.hid hr
  clear h hx hr hN hM
  go_enter Try.func39, Try.ntmps39
  go_wp2_with fail
  go_loopw [8] (fun i wr => ∃ k : Nat, k ≤ n ∧ i = .int .i64 k ∧ Hid (Laid w B g M (numsS M st (xs.take k)) wr)) (fun i _ => n - (RowKit.intOf i).toNat)
  case atStart => exact ⟨0, Nat.zero_le _, rfl, Lib.hid (Laid.refl HH.out)⟩
  case round =>
    obtain ⟨k, hk, rfl, HL⟩ := hrel
    by_cases hlt : k < n
    · have hltz : (k : Int) < (n : Int) := by omega
      have hblk := HL.out.fr.keep b0 _ _ _ HX.out int_packer.1 int_packer.2
      have hcell := (cell_at hblk k).trans (ints_at xs k (by rw [HN.out]; exact hlt))
      have HB := Lib.hid hblk
      obtain ⟨x, hx⟩ : ∃ x, xs.getD k 0 = x := ⟨_, rfl⟩
      rw [hx] at hcell
      have HXK := Lib.hid hx
      clear hx hblk
      by_cases hx0 : 0 ≤ x
      · have hneg : decide (x < 0) = false := by simp; omega
        by_cases hx1 : x ≤ 268435455
        · have hbig : decide (x > 268435455) = false := by simp; omega
          obtain ⟨y, rfl⟩ : ∃ y : Nat, x = y := ⟨x.toNat, by omega⟩
          have hblen : (xs.take k).length ≤ n := by rw [List.length_take, HN.out]; omega
          have hlen := numsS_len M (xs.take k) st
          have hconv := conv_be4 y hx1 wr
          have HK := Lib.hid (show M ≤ 1000000000000 ∨ ((numsS M st (xs.take k)).getD []).length + (be4 y).length ≤ 1000000000000 by
            have h4 : (be4 y).length = 4 := rfl
            rw [h4]
            rw [List.length_take, HN.out, Nat.min_eq_left (by omega)] at hlen
            have := HR.out
            omega)
          have HL1 := Lib.hid (HL.out.alloc hB (.cells #[.int .u8 ((y : Int) / 16777216), .int .u8 ((y : Int) / 65536 % 256), .int .u8 ((y : Int) / 256 % 256), .int .u8 ((y : Int) % 256)] 5))
          have HS := Lib.hid (show numsS M st (xs.take (k + 1)) = layS M (numsS M st (xs.take k)) (be4 y) by
            rw [numsS_snoc M st xs k (by rw [HN.out]; exact hlt), HXK.out]
            rw [show numS M (numsS M st (xs.take k)) (y : Int) = _ from if_pos ⟨hx0, hx1⟩, Int.toNat_natCast])
          clear hlen hblen
          go_wp2_with fail
          refine (CL.out _ _ (be4 y) (Nat.le_trans hB HL1.out.bl.size) HL1.out.pk HK.out).mono ?_
          rintro e w2 ⟨rfl, hl2⟩
          have HL2 := Lib.hid (show Laid w B g M (numsS M st (xs.take (k + 1))) w2 from HS.out ▸ HL1.out.trans hl2)
          clear hl2 hconv
          go_wp2_with fail
          go_roundw
          case rel => exact ⟨k + 1, by omega, by go_num, HL2⟩
          case measure => simp [RowKit.intOf]; omega
        · have hbig : decide (x > 268435455) = true := by simp; omega
          go_wp2_with fail
          refine (CR.out wr _ HL.out.pk).mono ?_
          rintro e w2 ⟨rfl, hl2⟩
          have HL2 := Lib.hid (show Laid w B g M (numsS M st xs) w2 by
            rw [numsS_bad M st xs k (by rw [HN.out]; exact hlt) (by rw [HXK.out]; omega)]; exact HL.out.trans hl2)
          clear hl2
          go_wp2_with fail
          exact bodyPost_ret (v := .tuple #[]) (by simp [results, Try.results39]) rfl ⟨rfl, HL2.out⟩
      · have hneg : decide (x < 0) = true := by simp; omega
        go_wp2_with fail
        refine (CR.out wr _ HL.out.pk).mono ?_
        rintro e w2 ⟨rfl, hl2⟩
        have HL2 := Lib.hid (show Laid w B g M (numsS M st xs) w2 by
          rw [numsS_bad M st xs k (by rw [HN.out]; exact hlt) (by rw [HXK.out]; omega)]; exact HL.out.trans hl2)
        clear hl2
        go_wp2_with fail
        exact bodyPost_ret (v := .tuple #[]) (by simp [results, Try.results39]) rfl ⟨rfl, HL2.out⟩
    · obtain rfl : k = n := by omega
      have hltz : ¬ (k : Int) < (k : Int) := by omega
      have HL2 := Lib.hid (show Laid w B g M (numsS M st xs) wr by
        have := HL.out
        rwa [← HN.out, List.take_length] at this)
      go_wp2_with fail
      exact bodyPost_end (v := .tuple #[]) (by simp [results, Try.results39]) rfl ⟨rfl, HL2.out⟩
end Go.Proofs.Ytfadpiipigkocaa
