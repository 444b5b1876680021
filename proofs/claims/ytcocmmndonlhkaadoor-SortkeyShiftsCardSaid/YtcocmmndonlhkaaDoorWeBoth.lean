/-
  Elements: its error and its answer, in one.
-/
import Derived.Test.YtcocmmndonlhkaaDoorWeBox
namespace Go.Proofs.YtcocmmndonlhkaaDoor
open Go.RowKit Go.Gz Go.Sort

/-- the error of Elements, and its answer. -/
def errE (T : TB) (s : List Int) : Int := if mayWB T.ls T.rs T.top then (if s.any mayNotB then 2 else 0) else 4
def outE (T : TB) (s : List Int) : List EL := if mayWB T.ls T.rs T.top then (if s.any mayNotB then [] else elemL T.ls T.rs s) else []
def RetBoth (T : TB) (s : List Int) (W : World) (e : Ending) (w' : World) : Prop :=
  ∃ p c, e = .returned (.tuple #[.slice p (outE T s).length c, .int .i64 (errE T s)]) ∧ Below W.heap.size W w' ∧ Els w' p (outE T s)
theorem elements_both (T : TB) (s : List Int) (q : Option Addr) (c : Nat) (W : World) (hT : TableAt W T) (hs : Row W .i32 q s) (hz : s.length ≤ 60000) :
    Calls Tryd.prog 14 #[.agg #[.slice T.lp T.ls.length T.lc, .slice T.rp T.rs.length T.rc, .int .i64 T.top, .bool T.sh], .slice q s.length c] W (RetBoth T s W) := by
  unfold RetBoth errE outE
  cases hm : mayWB T.ls T.rs T.top with
  | false => exact (elements_table T hm _ W hT).mono fun e w' h => ⟨none, 0, h.1, h.2, Or.inl rfl⟩
  | true =>
    simp only [if_true]
    cases hv : s.any mayNotB with
    | true => exact (elements_text T hm s hv q c W hT hs hz).mono fun e w' h => ⟨none, 0, h.1, h.2, Or.inl rfl⟩
    | false =>
      refine (elements_ok T hm s hv q c W hT hs hz).mono fun e w' h => ?_
      obtain ⟨v, rfl, hb, hown⟩ := h
      obtain ⟨p, k, rfl, _, _, hels⟩ := OwnE.row hown
      exact ⟨p, k, rfl, hb, hels⟩
theorem TabIn.below {w w' : World} {T : TB} (h : TabIn w T) (hb : Below w.heap.size w w') : TabIn w' T := ⟨h.lore.below hb, h.rows.below hb, h.bl, h.bx, h.br, h.by_⟩
theorem outE_few {T : TB} {s : List Int} (h : s.length ≤ 200) : (outE T s).length ≤ 2400 := by
  unfold outE
  split
  · rename_i hm
    split
    · simp
    · have := elem_few hm s
      rw [normal_length] at this
      have := apart_le (le3_of (may_wrong (mayW_lore hm))) s
      omega
  · simp

end Go.Proofs.YtcocmmndonlhkaaDoor
