/-
  Layer once: a table in memory; what it sees.
-/
import Derived.Test.YtjlkfoaccllflaaOnClone
import Derived.Deep.QuietTactic
import Derived.BigQuiet
namespace Go.Proofs.Ytjlkfoaccllflaa
open Go.RowKit Go.Gz Go.Maps

abbrev IM (w : World) (b : Nat) (L : List Ent) : Prop := IMap Try.prog 3 ck Ent.val w b L
/-- a map's value holds the entries. -/
def MapAt (w : World) (mb : Option Nat) (L : List Ent) : Prop := (mb = none ∧ L = []) ∨ ∃ b, mb = some b ∧ IM w b L
theorem MapAt.ord {w : World} {mb : Option Nat} {L : List Ent} (h : MapAt w mb L) : OrdK ck L := by
  rcases h with ⟨_, rfl⟩ | ⟨b, _, h⟩
  · exact List.Pairwise.nil
  · exact h.ord
theorem MapAt.keep {w w' : World} {mb : Option Nat} {L : List Ent} (h : MapAt w mb L) (hk : ∀ b, mb = some b → w'.heap[b]? = w.heap[b]?) : MapAt w' mb L := by
  rcases h with h | ⟨b, hb, h⟩
  · exact Or.inl h
  · exact Or.inr ⟨b, hb, h.block (hk b hb)⟩
theorem MapAt.lt {w : World} {mb : Option Nat} {L : List Ent} (h : MapAt w mb L) : ∀ b, mb = some b → b < w.heap.size := fun b hb => by
  rcases h with ⟨rfl, _⟩ | ⟨b', hb', h⟩
  · cases hb
  · rw [hb'] at hb; injection hb with hb; subst hb; exact h.lt
theorem MapAt.below {w w' : World} {mb : Option Nat} {L : List Ent} (h : MapAt w mb L) (hb : Below w.heap.size w w') : MapAt w' mb L := h.keep fun b e => hb.block b (h.lt b e)
theorem MapAt.drew {w : World} {mb : Option Nat} {L : List Ent} (h : MapAt w mb L) : MapAt w.drew mb L := h.below (Below.refl _ _).drew
theorem MapAt.noText {w : World} {mb : Option Nat} {L : List Ent} (h : MapAt w mb L) : ∀ b, mb = some b → NoText w b := fun b hb o s hc => by
  rcases h with ⟨rfl, _⟩ | ⟨b', hb', h⟩
  · cases hb
  · rw [hb'] at hb; injection hb with hb; subst hb
    obtain ⟨es, clock, he⟩ := h.obj
    simp [World.cell?, he] at hc
/-- what a look answers. -/
def lookV (L : List Ent) (c : Int) : Value := ((findK ck c L).map Ent.val).getD zeroLast
theorem zero_last (w : World) : (zeroValue 51).run Try.prog w = .ok zeroLast w := Try.zeroValue51 w
theorem MapAt.look_ok {w : World} {mb : Option Nat} {L : List Ent} (h : MapAt w mb L) (c : Int) (hc : (Lit.int .i64 c).wf = true) :
    (Instr.lookup 56 (.map mb) (.int .i64 c) true).run Try.prog w = .ok (.tuple #[lookV L c, .bool (findK ck c L).isSome]) w := by
  rcases h with ⟨rfl, rfl⟩ | ⟨b, rfl, h⟩
  · exact Maps.look_nil true (int_keyed Try.underlying3) Try.underlying56 (zero_last w) (keyOf_int_mk Try.underlying3 hc)
  · exact h.look_ok Try.underlying3 Try.underlying56 (zero_last w) c hc
theorem MapAt.look {w : World} {mb : Option Nat} {L : List Ent} (h : MapAt w mb L) (c : Int) (hc : (Lit.int .i64 c).wf = true) :
    (Instr.lookup 56 (.map mb) (.int .i64 c) false).run Try.prog w = .ok (lookV L c) w := by
  rcases h with ⟨rfl, rfl⟩ | ⟨b, rfl, h⟩
  · exact Maps.look_nil false (int_keyed Try.underlying3) Try.underlying56 (zero_last w) (keyOf_int_mk Try.underlying3 hc)
  · exact h.look Try.underlying3 Try.underlying56 (zero_last w) c hc

/-- a table at block T. -/
structure TabAt (w : World) (T : Nat) (mb : Option Nat) (L : List Ent) : Prop where
  c : w.heap[T]? = some (.cells #[.map mb] 62 (0, 0))
  m : MapAt w mb L
  e : EntsIn w L
  n : ∀ e ∈ L, Fine e
namespace TabAt
variable {w w' : World} {T : Nat} {mb : Option Nat} {L : List Ent}
theorem lt (h : TabAt w T mb L) : T < w.heap.size := (Array.getElem?_eq_some_iff.1 h.c).1
theorem c0 (h : TabAt w T mb L) : w.cell? ⟨T, 0, none⟩ = some (.map mb) := by simp [World.cell?, h.c]
theorem f0 (h : TabAt w T mb L) : w.frozen? ⟨T, 0, none⟩ = false := by simp [World.frozen?, h.c]
theorem below (h : TabAt w T mb L) (hb : Below w.heap.size w w') : TabAt w' T mb L := ⟨by rw [hb.block T h.lt]; exact h.c, h.m.below hb, h.e.below hb, h.n⟩
theorem noText (h : TabAt w T mb L) : NoText w T := fun o s hc => by
  simp only [World.cell?, h.c] at hc
  cases o with
  | zero => simp at hc
  | succ o => simp at hc
theorem noT (h : TabAt w T mb L) : ∀ b, mb = some b → b ≠ T := fun b hb e => by
  rcases h.m with ⟨rfl, _⟩ | ⟨b', hb', hm⟩
  · cases hb
  · rw [hb'] at hb; injection hb with hb; subst hb
    obtain ⟨es, clock, he⟩ := hm.obj
    rw [e, h.c] at he; cases he
end TabAt

def aboveB (L : List Ent) (c s : Int) : Bool := match findK ck c L with | none => decide (0 ≤ s) | some y => decide (y.s < s)
set_option maxHeartbeats 1000000 in
theorem above_any (w : World) (T : Nat) (mb : Option Nat) (L : List Ent) (h : TabAt w T mb L) (c s : Int) (hc : (Lit.int .i64 c).wf = true) :
    Calls Try.prog 23 #[.pointer (some ⟨T, 0, none⟩), .int .i64 c, .int .i64 s] w fun e w' => e = .returned (.bool (aboveB L c s)) ∧ Below w.heap.size w w' := by
  have hl := h.m.look_ok c hc
  have c0 := h.c0
  unfold aboveB
  unfold lookV at hl
  cases hf : findK ck c L with
  | none =>
    rw [hf] at hl
    simp only [Option.isSome_none, Option.map_none, Option.getD_none, zeroLast] at hl ⊢
    clear hf h
    go_enter Try.func23, Try.ntmps23
    go_wp2_with fail
    go_ret
    exact ⟨rfl, (Below.refl _ _).alloc (Nat.le_refl _) _⟩
  | some y =>
    rw [hf] at hl
    simp only [Option.isSome_some, Option.map_some, Option.getD_some, Ent.val] at hl ⊢
    clear hf h
    obtain ⟨ys, ⟨yc, yr, ye, yf, yv, yl, yn, ym⟩, yp, yk⟩ := y
    simp only at hl ⊢
    generalize strB yv = v at hl
    generalize strB yn = nx at hl
    generalize yl.length = n at hl
    go_enter Try.func23, Try.ntmps23
    go_wp2_with fail
    go_ret
    exact ⟨rfl, (Below.refl _ _).alloc (Nat.le_refl _) _⟩
theorem new_any (w : World) : Calls Try.prog 13 #[] w fun e w' => e = .returned (.pointer (some ⟨w.heap.size, 0, none⟩)) ∧ TabAt w' w.heap.size none [] ∧ Below w.heap.size w w' := by
  go_enter Try.func13, Try.ntmps13
  go_wp2_with fail
  go_ret
  exact ⟨rfl, ⟨new_block _ _ _, Or.inl ⟨rfl, rfl⟩, (fun e he => by cases he), fun e he => by cases he⟩, (Below.refl _ _).alloc (Nat.le_refl _) _⟩
end Go.Proofs.Ytjlkfoaccllflaa
