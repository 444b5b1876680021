/-
  General: lists sorted by an int key; a map from int to any value as such a list.
-/
import Derived.Test.YtjlkfoaccllflaaChecked
import Derived.WalkKit
import Derived.Below
import Derived.Lib.Hide
import Derived.Maps.OwnSet
import Derived.Lib.SlKeysI
namespace Go.Proofs.Ytjlkfoaccllflaa
open Go.RowKit Go.Maps

section
variable {α : Type} {key : α → Int} {x : α} {L : List α}
def putK (key : α → Int) (x : α) : List α → List α
  | [] => [x]
  | y :: t => if key y < key x then y :: putK key x t else if key y = key x then x :: t else x :: y :: t
def findK (key : α → Int) (c : Int) (L : List α) : Option α := L.find? (fun y => decide (key y = c))
def OrdK (key : α → Int) (L : List α) : Prop := L.Pairwise (fun a b => key a < key b)

theorem mem_putK {e : α} : ∀ {L : List α}, e ∈ putK key x L → e = x ∨ e ∈ L
  | [], h => by simpa [putK] using h
  | y :: t, h => by
    unfold putK at h
    split at h
    · rcases List.mem_cons.1 h with h | h
      · exact Or.inr (by simp [h])
      · rcases mem_putK h with h | h
        · exact Or.inl h
        · exact Or.inr (by simp [h])
    · split at h
      · rcases List.mem_cons.1 h with h | h
        · exact Or.inl h
        · exact Or.inr (by simp [h])
      · rcases List.mem_cons.1 h with h | h
        · exact Or.inl h
        · exact Or.inr h
theorem self_putK : ∀ {L : List α}, x ∈ putK key x L
  | [] => by simp [putK]
  | y :: t => by
    unfold putK
    split
    · exact List.mem_cons_of_mem _ self_putK
    · split <;> simp
theorem ord_putK : ∀ {L : List α}, OrdK key L → OrdK key (putK key x L)
  | [], _ => by simp [putK, OrdK]
  | y :: t, h => by
    obtain ⟨h1, h2⟩ := List.pairwise_cons.1 h
    unfold putK
    split
    · rename_i hlt
      refine List.pairwise_cons.2 ⟨fun e he => ?_, ord_putK h2⟩
      rcases mem_putK he with rfl | he
      · exact hlt
      · exact h1 e he
    · split
      · rename_i heq
        exact List.pairwise_cons.2 ⟨fun e he => by rw [← heq]; exact h1 e he, h2⟩
      · rename_i hn he
        refine List.pairwise_cons.2 ⟨fun e hm => ?_, h⟩
        rcases List.mem_cons.1 hm with rfl | hm
        · omega
        · have := h1 e hm; omega
theorem length_putK : ∀ {L : List α}, (putK key x L).length ≤ L.length + 1
  | [] => by simp [putK]
  | y :: t => by
    unfold putK
    split
    · simpa using length_putK (L := t)
    · split <;> simp
theorem findK_none {c : Int} (h : ∀ e ∈ L, key e ≠ c) : findK key c L = none := List.find?_eq_none.2 fun e he => by simpa using h e he
theorem findK_cons (c : Int) (y : α) (t : List α) : findK key c (y :: t) = if key y = c then some y else findK key c t := by
  unfold findK
  rw [List.find?_cons]
  by_cases h : key y = c <;> simp [h]
theorem findK_putK {c : Int} : ∀ {L : List α}, OrdK key L → findK key c (putK key x L) = if key x = c then some x else findK key c L
  | [], _ => by rw [putK, findK_cons]
  | y :: t, h => by
    obtain ⟨h1, h2⟩ := List.pairwise_cons.1 h
    unfold putK
    split
    · rw [findK_cons, findK_putK h2, findK_cons]
      by_cases ha : key y = c
      · rw [if_pos ha, if_neg (by omega), if_pos ha]
      · rw [if_neg ha, if_neg ha]
    · split
      · rw [findK_cons, findK_cons]
        by_cases ha : key x = c
        · rw [if_pos ha, if_pos ha]
        · rw [if_neg ha, if_neg ha, if_neg (by omega)]
      · rw [findK_cons]
theorem findK_mem {c : Int} {e : α} (h : findK key c L = some e) : e ∈ L ∧ key e = c :=
  ⟨List.mem_of_find?_eq_some h, by have := List.find?_some h; simpa using this⟩
theorem findK_of_mem {e : α} : ∀ {L : List α}, OrdK key L → e ∈ L → findK key (key e) L = some e
  | y :: t, h, hm => by
    obtain ⟨h1, h2⟩ := List.pairwise_cons.1 h
    rw [findK_cons]
    rcases List.mem_cons.1 hm with rfl | hm
    · rw [if_pos rfl]
    · rw [if_neg (by have := h1 e hm; omega)]
      exact findK_of_mem h2 hm
/-- sorted lists that find the same are the same. -/
theorem ordK_ext : ∀ {L L' : List α}, OrdK key L → OrdK key L' → (∀ c, findK key c L = findK key c L') → L = L'
  | [], [], _, _, _ => rfl
  | [], y :: t, _, _, h => by have := h (key y); rw [findK_cons, if_pos rfl] at this; cases this
  | y :: t, [], _, _, h => by have := h (key y); rw [findK_cons, if_pos rfl] at this; cases this
  | y :: t, z :: u, ha, hb, h => by
    obtain ⟨a1, a2⟩ := List.pairwise_cons.1 ha
    obtain ⟨b1, b2⟩ := List.pairwise_cons.1 hb
    have hyz : y = z := by
      have h1 := h (key y)
      rw [findK_cons, if_pos rfl, findK_cons] at h1
      split at h1
      · exact Option.some.inj h1
      · have hm := (findK_mem h1.symm).1
        have h2 := h (key z)
        rw [findK_cons, findK_cons, if_pos rfl] at h2
        split at h2
        · exact Option.some.inj h2
        · have hm2 := (findK_mem h2).1
          have := a1 z hm2
          have := b1 y hm
          omega
    subst hyz
    congr 1
    refine ordK_ext a2 b2 fun c => ?_
    have hc := h c
    rw [findK_cons, findK_cons] at hc
    by_cases he : key y = c
    · rw [findK_none fun e hm => by have := a1 e hm; omega, findK_none fun e hm => by have := b1 e hm; omega]
    · rwa [if_neg he, if_neg he] at hc
theorem map_putK {β : Type} {key' : β → Int} (f : α → β) (hf : ∀ a, key' (f a) = key a) : ∀ {L : List α}, (putK key x L).map f = putK key' (f x) (L.map f)
  | [] => rfl
  | y :: t => by
    simp only [List.map_cons]
    unfold putK
    rw [hf, hf]
    split
    · rw [List.map_cons, map_putK f hf]
    · split <;> simp
theorem map_findK {β : Type} {key' : β → Int} (f : α → β) (hf : ∀ a, key' (f a) = key a) (c : Int) : ∀ {L : List α}, findK key' c (L.map f) = (findK key c L).map f
  | [] => rfl
  | y :: t => by
    rw [List.map_cons, findK_cons, findK_cons, hf]
    split
    · rfl
    · exact map_findK f hf c
theorem ordK_map {β : Type} {key' : β → Int} (f : α → β) (hf : ∀ a, key' (f a) = key a) : OrdK key' (L.map f) ↔ OrdK key L := by
  unfold OrdK
  rw [List.pairwise_map]
  simp only [hf]

/-- the map's datum of a sorted list. -/
def mapOf (key : α → Int) (val : α → Value) (L : List α) : DataW Value := .map (L.map fun e => (Lit.int .i64 (key e), .held (val e)))
def heldR : Value → Option (DataW Value × List MemPlace) := fun v => some (.held v, [])
variable {val : α → Value}

theorem sameKey_int (a b : Int) : (Lit.int .i64 a).sameKey (Lit.int .i64 b) = decide (a = b) := by simp [Lit.sameKey]
theorem has_mapOf (c : Int) : has (mapOf key val L) (.int .i64 c) = (findK key c L).isSome := by
  unfold mapOf
  rw [has_eq, List.any_map]
  induction L with
  | nil => rfl
  | cons y t ih =>
    rw [List.any_cons, ih, findK_cons]
    simp only [Function.comp, sameKey_int]
    by_cases h : key y = c <;> simp [h]
theorem atKey_mapOf (c : Int) (z : Value) : (mapOf key val L).atKey (.int .i64 c) (.held z) = .held (((findK key c L).map val).getD z) := by
  unfold mapOf DataW.atKey
  simp only
  induction L with
  | nil => rfl
  | cons y t ih =>
    rw [List.map_cons, List.find?_cons, findK_cons]
    simp only [sameKey_int]
    by_cases h : key y = c
    · simp [h]
    · simp only [h, decide_false, if_false]
      exact ih
theorem size_mapOf : size (mapOf key val L) = L.length := by simp [mapOf, size]
theorem intKeys_mapOf : intKeys (mapOf key val L) = L.map key := by
  show (L.map fun e => (Lit.int .i64 (key e), DataW.held (val e))).map (fun p => intOf p.1) = _
  rw [List.map_map]
  rfl
theorem sort_keys {ss : List Int} (h : ss.Perm (L.map key)) (ho : OrdK key L) : ss.mergeSort (fun x y => decide (x ≤ y)) = L.map key := by
  have h1 := mergeSort_of_perm_i h
  rw [show ss.mergeSort (fun x y => decide (x ≤ y)) = ss.mergeSort leI from rfl, h1]
  exact List.mergeSort_of_pairwise ((List.pairwise_map.2 (List.Pairwise.imp (fun {a b} hab => by simp only [leI, decide_eq_true_eq]; omega) ho)))
theorem filter_above : ∀ {L : List α}, (∀ e ∈ L, key x < key e) → (L.map fun e => (Lit.int .i64 (key e), DataW.held (val e))).filter (fun p => !p.1.sameKey (.int .i64 (key x))) = L.map fun e => (Lit.int .i64 (key e), DataW.held (val e)) := by
  intro L h
  refine List.filter_eq_self.2 fun p hp => ?_
  obtain ⟨e, he, rfl⟩ := List.mem_map.1 hp
  have := h e he
  simp only [sameKey_int, Bool.not_eq_true', decide_eq_false_iff_not]
  omega
theorem insert_above : ∀ {L : List α}, (∀ e ∈ L, key x < key e) → DataW.insert (Lit.int .i64 (key x), DataW.held (val x)) (L.map fun e => (Lit.int .i64 (key e), DataW.held (val e))) = (x :: L).map fun e => (Lit.int .i64 (key e), DataW.held (val e))
  | [], _ => rfl
  | y :: t, h => by
    have := h y (by simp)
    simp only [List.map_cons]
    unfold DataW.insert
    rw [if_pos (by simp only [Lit.before, decide_eq_true_eq]; exact this)]
theorem put_mapOf (ho : OrdK key L) : (mapOf key val L).put (.int .i64 (key x)) (.held (val x)) = mapOf key val (putK key x L) := by
  unfold mapOf DataW.put
  simp only
  congr 1
  induction L with
  | nil => rfl
  | cons y t ih =>
    obtain ⟨h1, h2⟩ := List.pairwise_cons.1 ho
    rw [List.map_cons, List.filter_cons]
    simp only [sameKey_int]
    unfold putK
    by_cases hlt : key y < key x
    · rw [if_pos (by simp; omega), if_pos hlt]
      unfold DataW.insert
      rw [if_neg (by simp only [Lit.before, decide_eq_true_eq]; omega), List.map_cons]
      congr 1
      exact ih h2
    · rw [if_neg hlt]
      by_cases heq : key y = key x
      · rw [if_neg (by simp [heq]), if_pos heq, filter_above fun e he => by rw [← heq]; exact h1 e he]
        exact insert_above fun e he => by rw [← heq]; exact h1 e he
      · rw [if_pos (by simp [heq]), if_neg heq, filter_above fun e he => by have := h1 e he; omega]
        exact insert_above (L := y :: t) fun e he => by
          rcases List.mem_cons.1 he with rfl | he
          · omega
          · have := h1 e he; omega

/-- block b of w is a map that holds the list. -/
structure IMap (P : Program) (k : TypeId) (key : α → Int) (val : α → Value) (w : World) (b : Nat) (L : List α) : Prop where
  own : w.ownsMap P k heldR b L.length (mapOf key val L)
  ord : OrdK key L
variable {P : Program} {k : TypeId} {w w' : World} {b : Nat}
theorem IMap.lt (h : IMap P k key val w b L) : b < w.heap.size := h.own.lt
theorem IMap.made (w : World) : IMap P k key val (w.alloc (.map #[] 0)) w.heap.size [] := ⟨World.ownsMap_made w P k heldR, List.Pairwise.nil⟩
theorem IMap.block (h : IMap P k key val w b L) (hb : w'.heap[b]? = w.heap[b]?) : IMap P k key val w' b L := by
  obtain ⟨⟨es, clock, hh, r⟩, ho⟩ := h
  exact ⟨⟨es, clock, hb.trans hh, r⟩, ho⟩
theorem IMap.obj (h : IMap P k key val w b L) : ∃ es clock, w.heap[b]? = some (.map es clock) := by
  obtain ⟨⟨es, clock, hh, r⟩, ho⟩ := h
  exact ⟨es, clock, hh⟩
/-- a store. -/
theorem IMap.store {t e : TypeId} (h : IMap P k key val w b L) (hk : P.underlying k = some (.int .i64)) (ht : P.underlying t = some (.map k e)) (hn : L.length < maxLen) (x : α) (hx : (Lit.int .i64 (key x)).wf = true) :
    ∃ w', (Instr.mapUpdate t (.map (some b)) (.int .i64 (key x)) (val x)).run P w = .ok () w' ∧ IMap P k key val w' b (putK key x L) ∧ w.grownBy w' (some b) := by
  obtain ⟨w', hrun, hown, hg⟩ := h.own.update (int_keyed hk) ht hn (keyOf_int_mk hk hx) (R := heldR) (val := val x) (d := .held (val x)) (ps := []) rfl
  refine ⟨w', hrun, ⟨?_, ord_putK h.ord⟩, hg⟩
  rw [put_mapOf h.ord] at hown
  obtain ⟨es, clock, hb, F, _, hD⟩ := hown
  refine ⟨es, clock, hb, F, ?_, hD⟩
  have e1 := congrArg size hD
  rw [size_mapOf] at e1
  rw [e1]
  simp [size, length_sorted]
/-- a look. -/
theorem IMap.look_ok {t e : TypeId} (h : IMap P k key val w b L) (hk : P.underlying k = some (.int .i64)) (ht : P.underlying t = some (.map k e)) {z : Value} (hz : (zeroValue e).run P w = .ok z w) (c : Int) (hc : (Lit.int .i64 c).wf = true) :
    (Instr.lookup t (.map (some b)) (.int .i64 c) true).run P w = .ok (.tuple #[((findK key c L).map val).getD z, .bool (findK key c L).isSome]) w := by
  obtain ⟨v, ps, hrun, hv⟩ := h.own.look_ok (int_keyed hk) ht hz (zd := .held z) (zp := []) rfl (keyOf_int_mk hk hc)
  rw [has_mapOf] at hrun
  rw [atKey_mapOf] at hv
  simp only [heldR, Option.some.injEq, Prod.mk.injEq, DataW.held.injEq] at hv
  rw [hrun, hv.1]
theorem IMap.look {t e : TypeId} (h : IMap P k key val w b L) (hk : P.underlying k = some (.int .i64)) (ht : P.underlying t = some (.map k e)) {z : Value} (hz : (zeroValue e).run P w = .ok z w) (c : Int) (hc : (Lit.int .i64 c).wf = true) :
    (Instr.lookup t (.map (some b)) (.int .i64 c) false).run P w = .ok (((findK key c L).map val).getD z) w := by
  obtain ⟨v, ps, hrun, hv⟩ := h.own.lookup (int_keyed hk) ht hz (zd := .held z) (zp := []) rfl (keyOf_int_mk hk hc)
  rw [atKey_mapOf] at hv
  simp only [heldR, Option.some.injEq, Prod.mk.injEq, DataW.held.injEq] at hv
  rw [hrun, hv.1]
end
end Go.Proofs.Ytjlkfoaccllflaa
