/-
  Layer atlas: what each of its functions answers, and what is so asked of the program (proved of a commit's code elsewhere).
-/
import Derived.Test.YtodcnemnajlbdaaAtRefMay
import Derived.Test.YtodcnemnajlbdaaAtSmall
import Derived.Test.YtodcnemnajlbdaaAtMade
import Derived.Test.YtodcnemnajlbdaaRegPut
namespace Go.Proofs.Ytodcnemnajlbdaa
open Go.RowKit Go.Gz

/-- what a change answers: the epoch, the shards, the places that are taken away, the error. -/
structure OutA where
  ep : Int
  L : List Sd
  gone : List Int
  err : Int
def errA (e : Int) : OutA := ⟨0, [], [], e⟩
noncomputable def freshB (nodes ep : Int) (L : List Sd) : Bool := mayAB nodes ep L && decide (ep < 268435455)
def splitM (ep : Int) (L : List Sd) (k : ByteArray) (i : Nat) : List Sd := withL L [⟨⟨(L.getD i default).sp.f, k⟩, (L.getD i default).n, ep + 1⟩, ⟨⟨k, (L.getD i default).sp.t⟩, (L.getD i default).n, ep + 1⟩] i 1
def mergeM (ep : Int) (L : List Sd) (i : Nat) : List Sd := withL L [⟨⟨(L.getD i default).sp.f, (L.getD (i + 1) default).sp.t⟩, (L.getD i default).n, ep + 1⟩] i 2
def moveM (ep : Int) (L : List Sd) (i : Nat) (m : Int) : List Sd := withL L [⟨(L.getD i default).sp, m, ep + 1⟩] i 1
def placeA (L : List Sd) (k : ByteArray) : Option Nat := L.findIdx? fun x => hasB x.sp k
noncomputable def splitA (ep : Int) (L : List Sd) (k : ByteArray) : OutA :=
  if freshB 5 ep L = true then
    match placeA L k with
    | none => errA 1
    | some i => if k = (L.getD i default).sp.f then errA 1 else if 12 ≤ L.length then errA 8 else ⟨ep + 1, splitM ep L k i, [(i : Int)], 0⟩
  else errA 1
open Classical in
noncomputable def mergeA (ep : Int) (L : List Sd) (i : Int) : OutA :=
  if freshB 5 ep L = true ∧ 0 ≤ i ∧ i + 1 < L.length then ⟨ep + 1, mergeM ep L i.toNat, [i, i + 1], 0⟩ else errA 1
open Classical in
noncomputable def moveA (ep : Int) (L : List Sd) (i m nodes : Int) : OutA :=
  if freshB nodes ep L = true ∧ 0 ≤ i ∧ i < L.length ∧ 1 ≤ m ∧ m ≤ nodes ∧ m ≠ (L.getD i.toNat default).n then ⟨ep + 1, moveM ep L i.toNat m, [i], 0⟩ else errA 1
def RetO (w : World) (o : OutA) (e : Ending) (w' : World) : Prop :=
  ∃ p c q d, e = .returned (.tuple #[.agg #[.int .i64 o.ep, .slice p o.L.length c], .slice q o.gone.length d, .int .i64 o.err]) ∧ RowK KS w' p o.L ∧ Row w' .i64 q o.gone ∧ (TyP w' p 40 ∧ TyP w' q 3) ∧ Below w.heap.size w w'
def zeroS : Sd := ⟨⟨ByteArray.empty, ByteArray.empty⟩, 0, 0⟩
def ownerA (L : List Sd) (k : ByteArray) : Sd × Bool := match placeA L k with | some i => (L.getD i default, true) | none => (zeroS, false)

/-- what is asked of the program. -/
structure ProgA : Prop where
  first : ∀ (m : Int) (w : World), Calls Try.prog 8 #[.int .i64 m] w fun e w' => ∃ p c, e = .returned (.agg #[.int .i64 1, .slice p 1 c]) ∧ RowK KS w' p [⟨⟨ByteArray.empty, ByteArray.empty⟩, m, 1⟩] ∧ TyP w' p 40 ∧ Below w.heap.size w w'
  split : ∀ (ep : Int) (L : List Sd) (p : Option Addr) (c : Nat) (k : ByteArray) (w : World), RowK KS w p L → L.length ≤ 1000000 → Calls Try.prog 9 #[.agg #[.int .i64 ep, .slice p L.length c], .string k] w (RetO w (splitA ep L k))
  merge : ∀ (ep : Int) (L : List Sd) (p : Option Addr) (c : Nat) (i : Int) (w : World), RowK KS w p L → L.length ≤ 1000000 → Calls Try.prog 10 #[.agg #[.int .i64 ep, .slice p L.length c], .int .i64 i] w (RetO w (mergeA ep L i))
  move : ∀ (ep : Int) (L : List Sd) (p : Option Addr) (c : Nat) (i m nodes : Int) (w : World), RowK KS w p L → L.length ≤ 1000000 → Calls Try.prog 11 #[.agg #[.int .i64 ep, .slice p L.length c], .int .i64 i, .int .i64 m, .int .i64 nodes] w (RetO w (moveA ep L i m nodes))
  may : ∀ (ep : Int) (L : List Sd) (p : Option Addr) (c : Nat) (nodes : Int) (w : World), RowK KS w p L → L.length ≤ 1000000 → Calls Try.prog 12 #[.agg #[.int .i64 ep, .slice p L.length c], .int .i64 nodes] w fun e w' => e = .returned (.bool (mayAB nodes ep L)) ∧ Below w.heap.size w w'
  owner : ∀ (ep : Int) (L : List Sd) (p : Option Addr) (c : Nat) (k : ByteArray) (w : World), RowK KS w p L → L.length ≤ 1000000 → Calls Try.prog 13 #[.agg #[.int .i64 ep, .slice p L.length c], .string k] w fun e w' => e = .returned (.tuple #[valSd (ownerA L k).1, .bool (ownerA L k).2]) ∧ Below w.heap.size w w'

theorem place_some {L : List Sd} {k : ByteArray} {i : Nat} (hi : i < L.length) (h1 : hasB (L.getD i default).sp k = true) (h2 : ∀ j, j < i → hasB (L.getD j default).sp k = false) : placeA L k = some i := by
  unfold placeA
  rw [List.findIdx?_eq_some_iff_getElem]
  refine ⟨hi, ?_, fun j hj => ?_⟩
  · have := h1
    rw [List.getD, List.getElem?_eq_getElem hi] at this
    exact this
  · have := h2 j hj
    rw [List.getD, List.getElem?_eq_getElem (by omega)] at this
    simpa using this
theorem place_of {L : List Sd} {k : ByteArray} {i : Nat} (h : placeA L k = some i) : i < L.length ∧ hasB (L.getD i default).sp k = true ∧ ∀ j, j < i → hasB (L.getD j default).sp k = false := by
  unfold placeA at h
  rw [List.findIdx?_eq_some_iff_getElem] at h
  obtain ⟨hi, h1, h2⟩ := h
  refine ⟨hi, by rw [List.getD, List.getElem?_eq_getElem hi]; exact h1, fun j hj => ?_⟩
  rw [List.getD, List.getElem?_eq_getElem (by omega)]
  simpa using h2 j hj
theorem place_none {L : List Sd} {k : ByteArray} (h : placeA L k = none) : ∀ j, j < L.length → hasB (L.getD j default).sp k = false := fun j hj => by
  unfold placeA at h
  rw [List.findIdx?_eq_none_iff] at h
  rw [List.getD, List.getElem?_eq_getElem hj]
  simpa using h _ (List.getElem_mem hj)
theorem fresh_iff (nodes ep : Int) (L : List Sd) : freshB nodes ep L = true ↔ MayA nodes ep L ∧ ep < 268435455 := by
  unfold freshB
  rw [Bool.and_eq_true, mayAB_iff, decide_eq_true_eq]
/-- what a change makes, where it makes any, of an atlas that may be. -/
structure DoneA (ep : Int) (L : List Sd) (nodes : Int) (o : OutA) : Prop where
  may : MayA nodes (ep + 1) o.L
  epo : o.ep = ep + 1
  bnd : ep < 268435455
  gone : 1 ≤ o.gone.length
  new : ∀ x ∈ o.L, x ∈ L ∨ x.e = ep + 1
theorem split_done {ep : Int} {L : List Sd} {k : ByteArray} {nodes : Int} (hm : MayA nodes ep L) (h : (splitA ep L k).err = 0) : DoneA ep L nodes (splitA ep L k) := by
  unfold splitA at h ⊢
  by_cases hf : freshB 5 ep L = true
  · rw [if_pos hf] at h ⊢
    cases hp : placeA L k with
    | none => rw [hp] at h; cases h
    | some i =>
      obtain ⟨h1, h2, -⟩ := place_of hp
      rw [hp] at h
      simp only at h ⊢
      by_cases hk : k = (L.getD i default).sp.f
      · rw [if_pos hk] at h; cases h
      · rw [if_neg hk] at h ⊢
        by_cases hl : 12 ≤ L.length
        · rw [if_pos hl] at h; cases h
        · rw [if_neg hl] at h ⊢
          refine ⟨hm.split h1 (by omega) h2 hk, rfl, ((fresh_iff _ _ _).1 hf).2, by simp, fun x hx => ?_⟩
          rcases withL_mem hx with hx | hx
          · exact Or.inl hx
          · simp only [List.mem_cons, List.not_mem_nil, or_false] at hx
            rcases hx with rfl | rfl <;> exact Or.inr rfl
  · rw [if_neg hf] at h; cases h
theorem merge_done {ep : Int} {L : List Sd} {i : Int} {nodes : Int} (hm : MayA nodes ep L) (h : (mergeA ep L i).err = 0) : DoneA ep L nodes (mergeA ep L i) := by
  unfold mergeA at h ⊢
  by_cases hc : freshB 5 ep L = true ∧ 0 ≤ i ∧ i + 1 < L.length
  · rw [if_pos hc] at h ⊢
    refine ⟨hm.merge (by omega), rfl, ((fresh_iff _ _ _).1 hc.1).2, by simp, fun x hx => ?_⟩
    rcases withL_mem hx with hx | hx
    · exact Or.inl hx
    · simp only [List.mem_cons, List.not_mem_nil, or_false] at hx
      subst hx
      exact Or.inr rfl
  · rw [if_neg hc] at h; cases h
theorem move_done {ep : Int} {L : List Sd} {i m nodes : Int} (hm : MayA nodes ep L) (h : (moveA ep L i m nodes).err = 0) : DoneA ep L nodes (moveA ep L i m nodes) := by
  unfold moveA at h ⊢
  by_cases hc : freshB nodes ep L = true ∧ 0 ≤ i ∧ i < L.length ∧ 1 ≤ m ∧ m ≤ nodes ∧ m ≠ (L.getD i.toNat default).n
  · rw [if_pos hc] at h ⊢
    refine ⟨hm.move (by omega) ⟨hc.2.2.2.1, hc.2.2.2.2.1⟩, rfl, ((fresh_iff _ _ _).1 hc.1).2, by simp, fun x hx => ?_⟩
    rcases withL_mem hx with hx | hx
    · exact Or.inl hx
    · simp only [List.mem_cons, List.not_mem_nil, or_false] at hx
      subst hx
      exact Or.inr rfl
  · rw [if_neg hc] at h; cases h
end Go.Proofs.Ytodcnemnajlbdaa
