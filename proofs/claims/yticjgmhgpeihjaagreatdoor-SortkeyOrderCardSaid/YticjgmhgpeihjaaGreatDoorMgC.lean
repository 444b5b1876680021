/-
  Several texts in one: WeBox, WeBoth, SkBound, WeTake, WeRefT, WeRefE, WeRefBoth, WePart, WeLit, WeFew.
-/
import Derived.Test.YticjgmhgpeihjaaGreatDoorWeArgs
import Derived.Test.YticjgmhgpeihjaaGreatDoorWeElem
import Derived.Test.YticjgmhgpeihjaaGreatDoorMgA
import Derived.Test.YticjgmhgpeihjaaGreatDoorWeMath
import Derived.Test.YticjgmhgpeihjaaGreatDoorWeRefB
import Derived.Deep.AppendLies
import Derived.Test.YticjgmhgpeihjaaGreatDoorWeRef7
import Derived.Test.YticjgmhgpeihjaaGreatDoorQuietBelow
import Derived.Laws.OwnMore
import Derived.OneCell
import Derived.Deep.CutRange
import Derived.Deep.CutBlock
import Derived.Deep.RegionHeld3
import Derived.Maps.AppendAt
import Derived.Laws.AppendOwnNone
namespace Go.Proofs.YticjgmhgpeihjaaGreatDoor
open Go.RowKit Go.Gz Go.Sort

theorem own_slice {w : World} {B : Nat} {v : Value} {xs : List Int} (h : Own w B 21 .i32 v xs) : ∃ q c, v = .slice q xs.length c ∧ (q = none → c = 0) ∧ Row w .i32 q xs := by
  have h' := h
  obtain ⟨_, ⟨rfl, h0⟩ | ⟨g, cap', cur, rfl, _⟩⟩ := h
  · have h00 : xs = [] := List.eq_nil_of_length_eq_zero h0
    exact ⟨none, 0, by rw [h00]; rfl, fun _ => rfl, Or.inl h00⟩
  · obtain ⟨p', c', hv, _, hr⟩ := Own.row h'
    injection hv with hp hn hcc
    exact ⟨some ⟨g, 0, none⟩, cap', by rw [hn], (fun h => by cases h), by rw [hp]; exact hr⟩
/-- a table's box. -/
structure BoxAt (w : World) (B : Nat) (T : TB) : Prop where
  lt : B < w.heap.size
  t0 : w.cell? ⟨B, 0, none⟩ = some (.slice T.lp T.ls.length T.lc)
  t1 : w.cell? ⟨B, 1, none⟩ = some (.slice T.rp T.rs.length T.rc)
  t2 : w.cell? ⟨B, 2, none⟩ = some (.int .i64 T.top)
  t3 : w.cell? ⟨B, 3, none⟩ = some (.bool T.sh)
theorem BoxAt.below {w w' : World} {B : Nat} {T : TB} (h : BoxAt w B T) (hb : Below w.heap.size w w') : BoxAt w' B T :=
  ⟨Nat.lt_of_lt_of_le h.lt hb.size, cell_below hb h.t0 h.lt, cell_below hb h.t1 h.lt, cell_below hb h.t2 h.lt, cell_below hb h.t3 h.lt⟩
theorem BoxAt.new (W : World) (T : TB) (t : TypeId) : BoxAt (W.alloc (.cells #[.slice T.lp T.ls.length T.lc, .slice T.rp T.rs.length T.rc, .int .i64 T.top, .bool T.sh] t)) W.heap.size T :=
  ⟨by simp, by simp, by simp, by simp, by simp⟩
theorem TabIn.at_ {W w : World} {T : TB} (h : TabIn W T) (hb : Below W.heap.size W w) (h1 : T.ls.length ≤ 100) (h2 : T.rs.length ≤ 100) : TableAt w T :=
  ⟨h.lore.below hb, h.rows.below hb, by omega, by omega, h.by_⟩

/-- rows of at most four elements: what a text of so many runes weighs has at most four times as many. -/
theorem lengthen_few {α : Type} {f : α → Int} {cls : Int → Int} {row : List Int → Option WR} (hr : ∀ k x, row k = some x → x.to.length ≤ 4) : ∀ (l : List α) (best : WR) (passed : Int), best.to.length ≤ 4 → (lengthenG f cls row best passed l).1.to.length ≤ 4
  | [], best, passed, h => by simpa [lengthenG] using h
  | r :: t, best, passed, h => by
    unfold lengthenG
    split
    · exact h
    · split
      · exact lengthen_few hr t best passed h
      · split
        · rename_i x hx
          exact lengthen_few hr t x passed (hr _ x hx)
        · exact lengthen_few hr t best _ h
theorem weighF_few {α : Type} {f : α → Int} {cls : Int → Int} {row : List Int → Option WR} (hr : ∀ k x, row k = some x → x.to.length ≤ 4) : ∀ (n : Nat) (l : List α), (weighF f cls row n l).length ≤ 4 * n
  | 0, _ => by simp [weighF]
  | _ + 1, [] => by simp [weighF]
  | n + 1, r :: t => by
    unfold weighF
    split
    · have := weighF_few (f := f) (cls := cls) hr n t
      simp [impl]; omega
    · rename_i k x hk
      have h1 := lengthen_few (f := f) (cls := cls) hr ((r :: t).drop k) x 0 (hr _ x (longTo_some f row hk).2.2.2)
      have h2 := weighF_few (f := f) (cls := cls) hr n (lengthenG f cls row x 0 ((r :: t).drop k)).2
      simp only [List.length_append]; omega
theorem elem_few {ls : List LR} {rs : List WR} {top : Int} (h : mayWB ls rs top = true) (s : List Int) : (elemL ls rs s).length ≤ 4 * (normalL ls s).length :=
  weighF_few (fun _ x hx => (mayRow_of (mayW_row h x (row_some hx).1)).2.2.1) _ _

end Go.Proofs.YticjgmhgpeihjaaGreatDoor
namespace Go.Proofs.YticjgmhgpeihjaaGreatDoor
open Go.RowKit Go.Gz Go.Sort

/-- the error of Elements, and its answer. -/
def errE (T : TB) (s : List Int) : Int := if mayWB T.ls T.rs T.top then (if s.any mayNotB then 2 else 0) else 4
def outE (T : TB) (s : List Int) : List EL := if mayWB T.ls T.rs T.top then (if s.any mayNotB then [] else elemL T.ls T.rs s) else []
def RetBoth (T : TB) (s : List Int) (W : World) (e : Ending) (w' : World) : Prop :=
  ∃ p c, e = .returned (.tuple #[.slice p (outE T s).length c, .int .i64 (errE T s)]) ∧ Below W.heap.size W w' ∧ Els w' p (outE T s)
theorem elements_both (T : TB) (s : List Int) (q : Option Addr) (c : Nat) (W : World) (hT : TableAt W T) (hs : Row W .i32 q s) (hz : s.length ≤ 60000) :
    Calls Tryz.prog 15 #[.agg #[.slice T.lp T.ls.length T.lc, .slice T.rp T.rs.length T.rc, .int .i64 T.top, .bool T.sh], .slice q s.length c] W (RetBoth T s W) := by
  unfold RetBoth errE outE
  cases hm : mayWB T.ls T.rs T.top with
  | false => exact (elements_table T hm _ W hT).mono fun e w' h => ⟨none, 0, h.1, h.2, Or.inl rfl⟩
  | true =>
    simp only [if_true]
    cases hv : s.any mayNotB with
    | true => exact (elements_text T hm s hv q c W hT hs hz).mono fun e w' h => ⟨none, 0, h.1, h.2, Or.inl rfl⟩
    | false =>
      refine (elements_ok T hm s hv q c W hT hs hz).mono fun e w' h => ?_
      obtain ⟨v, rfl, hb, hown⟩ := h
      obtain ⟨p, k, rfl, _, _, hels⟩ := OwnE.row hown
      exact ⟨p, k, rfl, hb, hels⟩
theorem TabIn.below {w w' : World} {T : TB} (h : TabIn w T) (hb : Below w.heap.size w w') : TabIn w' T := ⟨h.lore.below hb, h.rows.below hb, h.bl, h.bx, h.br, h.by_⟩
theorem outE_few {T : TB} {s : List Int} (h : s.length ≤ 200) : (outE T s).length ≤ 2400 := by
  unfold outE
  split
  · rename_i hm
    split
    · simp
    · have := elem_few hm s
      rw [normal_length] at this
      have := apart_le (le3_of (may_wrong (mayW_lore hm))) s
      omega
  · simp

end Go.Proofs.YticjgmhgpeihjaaGreatDoor
namespace Go.Gz
open Go.RowKit
/-- an element whose weights are numbers of two bytes. -/
def ElOk (x : EL) : Prop := 0 ≤ x.p ∧ x.p ≤ 65535 ∧ 0 ≤ x.s ∧ x.s ≤ 65535 ∧ 0 ≤ x.t ∧ x.t ≤ 65535
theorem impl_ok {r : Int} (h0 : 0 ≤ r) (h1 : r ≤ 1114111) : ∀ x ∈ impl r, ElOk x := by
  intro x hx
  simp only [impl, List.mem_cons, List.not_mem_nil, or_false] at hx
  rcases hx with rfl | rfl
  · refine ⟨?_, ?_, ?_, ?_, ?_, ?_⟩ <;> dsimp only <;> omega
  · refine ⟨?_, ?_, ?_, ?_, ?_, ?_⟩ <;> dsimp only <;> omega
section
variable {α : Type} {f : α → Int} {cls : Int → Int} {row : List Int → Option WR}
theorem lengthen_ok (hr : ∀ k x, row k = some x → ∀ y ∈ x.to, ElOk y) : ∀ (l : List α) (best : WR) (passed : Int), (∀ y ∈ best.to, ElOk y) → (∀ y ∈ (lengthenG f cls row best passed l).1.to, ElOk y) ∧ (∀ z ∈ (lengthenG f cls row best passed l).2, z ∈ l)
  | [], best, passed, h => ⟨by simpa [lengthenG] using h, by simp [lengthenG]⟩
  | r :: t, best, passed, h => by
    unfold lengthenG
    split
    · exact ⟨h, fun z hz => hz⟩
    · split
      · have ih := lengthen_ok hr t best passed h
        refine ⟨ih.1, fun z hz => ?_⟩
        rcases List.mem_cons.1 hz with rfl | hz
        · simp
        · exact List.mem_cons_of_mem _ (ih.2 z hz)
      · split
        · rename_i x hx
          have ih := lengthen_ok hr t x passed (hr _ x hx)
          exact ⟨ih.1, fun z hz => List.mem_cons_of_mem _ (ih.2 z hz)⟩
        · have ih := lengthen_ok hr t best (cls (f r)) h
          refine ⟨ih.1, fun z hz => ?_⟩
          rcases List.mem_cons.1 hz with rfl | hz
          · simp
          · exact List.mem_cons_of_mem _ (ih.2 z hz)
theorem weighF_ok (hr : ∀ k x, row k = some x → ∀ y ∈ x.to, ElOk y) : ∀ (n : Nat) (l : List α), (∀ z ∈ l, 0 ≤ f z ∧ f z ≤ 1114111) → ∀ y ∈ weighF f cls row n l, ElOk y
  | 0, _, _ => by simp [weighF]
  | _ + 1, [], _ => by simp [weighF]
  | n + 1, r :: t, hl => by
    unfold weighF
    split
    · intro y hy
      rcases List.mem_append.1 hy with hy | hy
      · exact impl_ok (hl r (by simp)).1 (hl r (by simp)).2 y hy
      · exact weighF_ok hr n t (fun z hz => hl z (by simp [hz])) y hy
    · rename_i k x hk
      have h1 := lengthen_ok (f := f) (cls := cls) hr ((r :: t).drop k) x 0 (hr _ x (longTo_some f row hk).2.2.2)
      intro y hy
      rcases List.mem_append.1 hy with hy | hy
      · exact h1.1 y hy
      · exact weighF_ok hr n _ (fun z hz => hl z (List.mem_of_mem_drop (h1.2 z hz))) y hy
end
theorem addW_ok {L : List (List Int)} {ws : List Int} (hL : ∀ l ∈ L, ∀ w ∈ l, 0 < w ∧ w ≤ 65535) (hw : ∀ w ∈ ws, w ≤ 65535) : ∀ l ∈ addW L ws, ∀ w ∈ l, 0 < w ∧ w ≤ 65535 := by
  intro l hl w hwl
  unfold addW at hl
  rw [List.mem_iff_getElem] at hl
  obtain ⟨i, hi, rfl⟩ := hl
  simp only [List.length_zipWith] at hi
  rw [List.getElem_zipWith] at hwl
  have h1 := hL L[i] (List.getElem_mem (by omega))
  split at hwl
  · rename_i hp
    rcases List.mem_append.1 hwl with h | h
    · exact h1 w h
    · rw [List.mem_singleton.1 h]; exact ⟨hp, hw _ (List.getElem_mem (by omega))⟩
  · exact h1 w hwl
theorem wOf_ok {sh : Bool} {top : Int} {x : EL} {b : Bool} (h : ElOk x) : ∀ w ∈ (wOf sh top x b).1, w ≤ 65535 := by
  obtain ⟨h1, h2, h3, h4, h5, h6⟩ := h
  intro w hw
  unfold wOf shiftE at hw
  split at hw
  · split at hw
    · simp at hw; omega
    · split at hw
      · simp at hw; omega
      · simp at hw
        rcases hw with rfl | rfl | rfl | rfl
        · omega
        · omega
        · omega
        · split <;> omega
  · simp at hw; omega
theorem foldl_ok (sh : Bool) (top : Int) : ∀ (l : List EL) (st : LvSt), (∀ x ∈ l, ElOk x) → (∀ z ∈ st.1, ∀ w ∈ z, 0 < w ∧ w ≤ 65535) → ∀ z ∈ (l.foldl (levStep sh top) st).1, ∀ w ∈ z, 0 < w ∧ w ≤ 65535
  | [], _, _, h => h
  | x :: l, st, hl, h => foldl_ok sh top l (levStep sh top st x) (fun y hy => hl y (by simp [hy])) (addW_ok h (wOf_ok (hl x (by simp))))
theorem levL_ok {sh : Bool} {top : Int} {l : List EL} (h : ∀ x ∈ l, ElOk x) : ∀ z ∈ levL sh top l, ∀ w ∈ z, 0 < w ∧ w ≤ 65535 :=
  foldl_ok sh top l _ h fun z hz w hw => by simp at hz; subst hz; simp at hw
end Go.Gz
namespace Go.Proofs.YticjgmhgpeihjaaGreatDoor
open Go.RowKit Go.Gz Go.Sort
theorem outE_ok (T : TB) (s : List Int) : ∀ x ∈ outE T s, ElOk x := by
  unfold outE
  split
  · rename_i hm
    split
    · simp
    · rename_i hv
      have hv' : s.any mayNotB = false := by simpa using hv
      have hml := mayW_lore hm
      have hval := valid_normal hml hv'
      unfold elemL weighL weighG
      refine weighF_ok (fun k x hx y hy => ?_) _ _ fun z hz => ?_
      · have h1 := mayW_row hm x (row_some hx).1
        have h2 : elNotB y = false := by
          unfold mayRowB at h1
          simp only [Bool.and_eq_true, Bool.not_eq_true'] at h1
          have := List.any_eq_false.1 h1.2.1.2 y hy
          simpa using this
        unfold elNotB at h2
        have h3 := of_decide_eq_false h2
        unfold ElOk
        omega
      · have := List.any_eq_false.1 hval z hz
        exact valid_range (by simpa using this)
  · simp
end Go.Proofs.YticjgmhgpeihjaaGreatDoor
namespace Go.Gz
open Go.RowKit

/-- the places from i on that are not gone. -/
def liveF (gone : List Bool) (i n : Nat) : List Nat := (List.range' i (n - i)).filter fun k => !gone.getD k false
theorem liveF_end (gone : List Bool) (n : Nat) : liveF gone n n = [] := by simp [liveF]
theorem liveF_all (n : Nat) : liveF (List.replicate n false) 0 n = List.range n := by
  unfold liveF
  rw [Nat.sub_zero, List.range_eq_range', List.filter_eq_self]
  intro k hk
  have := List.mem_range'_1.1 hk
  simp [List.getD, List.getElem?_replicate]
  split <;> rfl
theorem liveF_gone {gone : List Bool} {i n : Nat} (hi : i < n) (h : gone.getD i false = true) : liveF gone i n = liveF gone (i + 1) n := by
  unfold liveF
  rw [show n - i = (n - (i + 1)) + 1 by omega, List.range'_succ, List.filter_cons, h]
  rfl
theorem liveF_live {gone : List Bool} {i n : Nat} (hi : i < n) (h : gone.getD i false = false) : liveF gone i n = i :: liveF gone (i + 1) n := by
  unfold liveF
  rw [show n - i = (n - (i + 1)) + 1 by omega, List.range'_succ, List.filter_cons, h]
  rfl
theorem liveF_mem {gone : List Bool} {i n x : Nat} (h : x ∈ liveF gone i n) : i ≤ x ∧ x < n := by
  unfold liveF at h
  have := List.mem_range'_1.1 (List.mem_filter.1 h).1
  omega
theorem liveF_srt (gone : List Bool) (i n : Nat) : (liveF gone i n).Pairwise (· < ·) := List.Pairwise.filter _ List.pairwise_lt_range'
theorem liveF_length (gone : List Bool) (i n : Nat) : (liveF gone i n).length ≤ n - i := by
  unfold liveF
  have := List.length_filter_le (fun k => !gone.getD k false) (List.range' i (n - i))
  simpa using this
/-- the live places between i and k. -/
theorem liveF_snoc {gone : List Bool} {i k : Nat} (hi : i ≤ k) : liveF gone i (k + 1) = if gone.getD k false then liveF gone i k else liveF gone i k ++ [k] := by
  unfold liveF
  rw [show k + 1 - i = (k - i) + 1 by omega, List.range'_concat, List.filter_append, Nat.one_mul, show i + (k - i) = k by omega]
  cases h : gone.getD k false with
  | false => simp only [List.filter_cons, List.filter_nil, h]; rfl
  | true => simp only [List.filter_cons, List.filter_nil, h]; exact List.append_nil _
def marks (gone : List Bool) (U : List Nat) : List Bool := U.foldl (fun g u => g.set u true) gone
theorem marks_snoc (gone : List Bool) (U : List Nat) (u : Nat) : marks gone (U ++ [u]) = (marks gone U).set u true := by simp [marks]
theorem marks_length : ∀ (U : List Nat) (gone : List Bool), (marks gone U).length = gone.length
  | [], _ => rfl
  | u :: U, gone => by
    show (marks (gone.set u true) U).length = _
    rw [marks_length U]; simp
theorem marks_getD : ∀ (U : List Nat) (gone : List Bool) (k : Nat), k < gone.length → (marks gone U).getD k false = (gone.getD k false || decide (k ∈ U))
  | [], gone, k, _ => by simp [marks]
  | u :: U, gone, k, hk => by
    show (marks (gone.set u true) U).getD k false = _
    rw [marks_getD U _ k (by simpa using hk)]
    by_cases h : k = u
    · subst h
      simp [List.getD, hk]
    · have h' : ¬ u = k := fun e => h e.symm
      simp [List.getD, h, h']
theorem liveF_marks {gone : List Bool} {n : Nat} (hn : gone.length = n) (i : Nat) (U : List Nat) : liveF (marks gone U) i n = (liveF gone i n).filter fun k => !decide (k ∈ U) := by
  unfold liveF
  rw [List.filter_filter]
  refine List.filter_congr fun k hk => ?_
  have hk' := List.mem_range'_1.1 hk
  rw [marks_getD U gone k (by omega)]
  cases gone.getD k false <;> simp

section
variable {f : Nat → Int} {cls : Int → Int} {row : List Int → Option WR}
theorem longTo_more (A : List Nat) (m : Nat) (h : A.length ≤ m) : ∀ d, longTo f row A (m + d) = longTo f row A m
  | 0 => rfl
  | d + 1 => by
    show longTo f row A (m + d + 1) = _
    rw [longTo, if_neg (by omega), longTo_more A m h d]
theorem longTo_atk (A : List Nat) {k : Nat} (h1 : 1 ≤ k) (h : k ≤ A.length) : longTo f row A k = match row ((A.take k).map f) with
    | some x => some (k, x)
    | none => longTo f row A (k - 1) := by
  obtain ⟨j, rfl⟩ : ∃ j, k = j + 1 := ⟨k - 1, by omega⟩
  rw [longTo, if_pos h, Nat.add_sub_cancel]
  cases row ((A.take (j + 1)).map f) <;> rfl
theorem longTo_end (A : List Nat) {k : Nat} (h1 : 1 ≤ k) (h4 : k ≤ 4) (h : ¬ k ≤ 3 ∨ ¬ k ≤ A.length) : longTo f row A 3 = longTo f row A (k - 1) := by
  rcases h with h | h
  · rw [show k = 4 by omega]
  · have := longTo_more (f := f) (row := row) A (k - 1) (by omega) (3 - (k - 1))
    rwa [show k - 1 + (3 - (k - 1)) = 3 by omega] at this
/-- the pass of take, at some place. -/
structure Tk (f : Nat → Int) (cls : Int → Int) (row : List Int → Option WR) (x0 : WR) (A : List Nat) (n0 : Nat) (best : WR) (passed : Int) (used : List Nat) (k : Nat) : Prop where
  lo : n0 ≤ k
  hi : k ≤ A.length
  eq : lengthenG f cls row x0 0 (A.drop n0) = ((lengthenG f cls row best passed (A.drop k)).1, (A.take k).filter (fun z => !decide (z ∈ used)) ++ (lengthenG f cls row best passed (A.drop k)).2)
  of : used.map f = best.of
  row : row best.of = some best
  sub : ∀ u ∈ used, u ∈ A.take k
  fst : ∀ u ∈ A.take n0, u ∈ used
  len : used.length ≤ k
variable {x0 best : WR} {A used : List Nat} {n0 k : Nat} {passed : Int}
theorem Tk.start (hx : ∀ k x, row k = some x → x.of = k) (h : longTo f row A 3 = some (n0, x0)) : Tk f cls row x0 A n0 x0 0 (A.take n0) n0 := by
  obtain ⟨_, _, h3, h4⟩ := longTo_some f row h
  have h5 := hx _ _ h4
  refine ⟨Nat.le_refl _, h3, ?_, h5.symm, by rw [h5]; exact h4, fun u hu => hu, fun u hu => hu, by rw [List.length_take]; omega⟩
  have : (A.take n0).filter (fun z => !decide (z ∈ A.take n0)) = [] := by
    rw [List.filter_eq_nil_iff]
    intro z hz
    simp only [hz, decide_true, Bool.not_true, Bool.false_eq_true, not_false_eq_true]
  rw [this]; rfl
theorem take_nd (hA : A.Pairwise (· < ·)) (hk : k < A.length) : A[k] ∉ A.take k := by
  intro h
  obtain ⟨j, hj, he⟩ := List.getElem_of_mem h
  rw [List.length_take] at hj
  rw [List.getElem_take] at he
  have := List.pairwise_iff_getElem.1 hA j k (by omega) hk (by omega)
  omega
theorem filter_snoc (P : Nat → Bool) (hk : k < A.length) : (A.take (k + 1)).filter P = (A.take k).filter P ++ if P A[k] then [A[k]] else [] := by
  rw [List.take_succ_eq_append_getElem hk, List.filter_append]
  congr 1
  simp [List.filter_cons]
theorem Tk.skip (hA : A.Pairwise (· < ·)) (h : Tk f cls row x0 A n0 best passed used k) (hk : k < A.length) (hc : cls (f A[k]) ≠ 0) (hp : cls (f A[k]) ≤ passed) : Tk f cls row x0 A n0 best passed used (k + 1) := by
  have hn : A[k] ∉ used := fun hu => take_nd hA hk (h.sub _ hu)
  refine ⟨by have := h.lo; omega, by omega, ?_, h.of, h.row, fun u hu => ?_, h.fst, by have := h.len; omega⟩
  · rw [h.eq, List.drop_eq_getElem_cons hk, lengthenG, if_neg hc, if_pos hp, filter_snoc _ hk]
    simp [hn]
  · rw [List.take_succ_eq_append_getElem hk]; exact List.mem_append.2 (Or.inl (h.sub u hu))
theorem Tk.none (hA : A.Pairwise (· < ·)) (h : Tk f cls row x0 A n0 best passed used k) (hk : k < A.length) (hc : cls (f A[k]) ≠ 0) (hp : ¬ cls (f A[k]) ≤ passed) (hr : row (best.of ++ [f A[k]]) = none) : Tk f cls row x0 A n0 best (cls (f A[k])) used (k + 1) := by
  have hn : A[k] ∉ used := fun hu => take_nd hA hk (h.sub _ hu)
  refine ⟨by have := h.lo; omega, by omega, ?_, h.of, h.row, fun u hu => ?_, h.fst, by have := h.len; omega⟩
  · rw [h.eq, List.drop_eq_getElem_cons hk, lengthenG, if_neg hc, if_neg hp, hr, filter_snoc _ hk]
    simp [hn]
  · rw [List.take_succ_eq_append_getElem hk]; exact List.mem_append.2 (Or.inl (h.sub u hu))
theorem Tk.take (hA : A.Pairwise (· < ·)) (hx : ∀ k x, row k = some x → x.of = k) (h : Tk f cls row x0 A n0 best passed used k) (hk : k < A.length) (hc : cls (f A[k]) ≠ 0) (hp : ¬ cls (f A[k]) ≤ passed) {x : WR} (hr : row (best.of ++ [f A[k]]) = some x) : Tk f cls row x0 A n0 x passed (used ++ [A[k]]) (k + 1) := by
  have hn := take_nd hA hk
  have h5 := hx _ _ hr
  refine ⟨by have := h.lo; omega, by omega, ?_, ?_, by rw [h5]; exact hr, fun u hu => ?_, fun u hu => List.mem_append.2 (Or.inl (h.fst u hu)), by have := h.len; simp; omega⟩
  · rw [h.eq, List.drop_eq_getElem_cons hk, lengthenG, if_neg hc, if_neg hp, hr, filter_snoc _ hk]
    have e1 : (A.take k).filter (fun z => !decide (z ∈ used ++ [A[k]])) = (A.take k).filter (fun z => !decide (z ∈ used)) := by
      refine List.filter_congr fun z hz => ?_
      have : z ≠ A[k] := fun e => hn (e ▸ hz)
      simp [this]
    rw [e1]
    simp
  · rw [List.map_append, h.of, h5]; rfl
  · rw [List.take_succ_eq_append_getElem hk]
    rcases List.mem_append.1 hu with hu | hu
    · exact List.mem_append.2 (Or.inl (h.sub u hu))
    · exact List.mem_append.2 (Or.inr hu)
theorem Tk.stop (hA : A.Pairwise (· < ·)) (h : Tk f cls row x0 A n0 best passed used k) (hs : k = A.length ∨ ∃ hk : k < A.length, cls (f A[k]) = 0) : lengthenG f cls row x0 0 (A.drop n0) = (best, A.filter fun z => !decide (z ∈ used)) := by
  have hsplit : A.filter (fun z => !decide (z ∈ used)) = (A.take k).filter (fun z => !decide (z ∈ used)) ++ A.drop k := by
    have e : A.take k ++ A.drop k = A := List.take_append_drop k A
    have : (A.drop k).filter (fun z => !decide (z ∈ used)) = A.drop k := by
      rw [List.filter_eq_self]
      intro z hz
      have hns : z ∉ used := by
        intro hu
        have h1 := h.sub z hu
        rw [← e] at hA
        have := (List.pairwise_append.1 hA).2.2 z h1 z hz
        omega
      simp [hns]
    rw [← this, ← List.filter_append, e]
  rw [h.eq, hsplit]
  rcases hs with rfl | ⟨hk, hc⟩
  · rw [List.drop_length]; simp [lengthenG]
  · rw [List.drop_eq_getElem_cons hk, lengthenG, if_pos hc]
/-- what the places from i on weigh, once those taken are marked. -/
theorem Tk.weighs {gone : List Bool} {i n : Nat} (hn : gone.length = n) (hi : i < n) (hg : gone.getD i false = false) (hl : longTo f row (liveF gone i n) 3 = some (n0, x0)) (h : Tk f cls row x0 (liveF gone i n) n0 best passed used k) (hs : k = (liveF gone i n).length ∨ ∃ hk : k < (liveF gone i n).length, cls (f (liveF gone i n)[k]) = 0) :
    weighG f cls row (liveF gone i n) = best.to ++ weighG f cls row (liveF (marks gone used) (i + 1) n) := by
  rw [weigh_some f cls row hl, h.stop (liveF_srt _ _ _) hs]
  dsimp only
  rw [← liveF_marks hn, liveF_gone hi]
  rw [marks_getD used gone i (by omega)]
  obtain ⟨h1, _, h3, _⟩ := longTo_some f row hl
  have : i ∈ used := by
    refine h.fst i ?_
    rw [liveF_live hi hg]
    obtain ⟨m, rfl⟩ : ∃ m, n0 = m + 1 := ⟨n0 - 1, by omega⟩
    simp
  simp [this]
end
end Go.Gz
namespace Go.Proofs.YticjgmhgpeihjaaGreatDoor
open Go.RowKit Go.Gz Go.Sort

theorem info_int : (Tryz.prog.info? 3).map (fun i => (i.zero, i.size, i.bytes)) = some (some (.int .i64 0), 1, 8) := by kernel_rfl
theorem info_bool : (Tryz.prog.info? 4).map (fun i => (i.zero, i.size, i.bytes)) = some (some (.bool false), 1, 1) := by kernel_rfl
def ofN (l : List Nat) : List Int := l.map fun (k : Nat) => (k : Int)
theorem ofN_length (l : List Nat) : (ofN l).length = l.length := by simp [ofN]
theorem ofN_getD {l : List Nat} {j : Nat} (h : j < l.length) : (ofN l).getD j 0 = ((l[j] : Nat) : Int) := by simp [ofN, List.getD, h]
theorem ofN_snoc (l : List Nat) (a : Nat) : ofN (l ++ [a]) = ofN l ++ [(a : Int)] := by simp [ofN]
theorem ofN_take (l : List Nat) (k : Nat) : ofN (l.take k) = (ofN l).take k := by simp [ofN, List.map_take]
theorem Row.take {w : World} {k : IntKind} {p : Option Addr} {xs : List Int} (h : Row w k p xs) (n : Nat) : Row w k p (xs.take n) := by
  rcases h with h | ⟨b, off, hp, hlt, hc⟩
  · exact Or.inl (by rw [h]; exact List.take_nil)
  · refine Or.inr ⟨b, off, hp, hlt, fun j hj => ?_⟩
    rw [List.length_take] at hj
    rw [hc j (by omega)]
    simp [List.getD, show j < n by omega]
theorem oneI (w : World) (k : IntKind) (x : Int) (t : TypeId) : ∀ j, j < 1 → (w.alloc (.cells #[.int k x] t)).cell? ⟨w.heap.size, j, none⟩ = some (.int k ([x].getD j 0)) := by
  intro j hj
  obtain rfl : j = 0 := by omega
  rw [World.cell?_alloc_new]; rfl

def TkR (W : World) (f : Nat → Int) (A : List Nat) (v i : Value) (wr : World) (g : Nat) : Prop := ∃ k : Nat, i = .int .i64 (k : Int) ∧ k ≤ A.length ∧ A.length - k ≤ g ∧ Below W.heap.size W wr ∧ Own wr W.heap.size 21 .i32 v ((A.map f).take k)

set_option maxHeartbeats 1000000 in
set_option maxRecDepth 100000 in
theorem refTake_any (s : List Int) (q : Option Addr) (c : Nat) (A : List Nat) (qa : Option Addr) (ca : Nat) (W : World) (hs : Row W .i32 q s) (hA : Row W .i64 qa (ofN A)) (hlt : ∀ a ∈ A, a < s.length) (hz : A.length ≤ 100000) (_hsz : s.length ≤ 100000) :
    Calls Tryz.prog 39 #[.slice q s.length c, .slice qa A.length ca] W (RetOwn W (A.map fun i => s.getD i 0)) := by
  have HS := Lib.hid hs; clear hs
  have HA := Lib.hid hA; clear hA
  have HLT := Lib.hid hlt; clear hlt
  obtain ⟨f, hf⟩ : ∃ f : Nat → Int, (fun i => s.getD i 0) = f := ⟨_, rfl⟩
  rw [hf]
  have HF := Lib.hid (fun i => congrFun hf i)
  clear hf
  go_enter Tryz.func39, Tryz.ntmps39
  go_wp2_with fail
  go_loopg [5, 6] A.length (fun g v i wr => Hid (TkR W f A v i wr g))
  case atStart => exact Lib.hid ⟨0, rfl, Nat.zero_le _, by omega, Below.refl _ _, Own.nil _ _ _ _⟩
  case round =>
    have hrel' := hrel.out
    clear hrel
    obtain ⟨k, rfl, hk, hg, hb, hown⟩ := hrel'
    have HB := Lib.hid hb; clear hb
    have HO := Lib.hid hown; clear hown
    have hsz2 := HB.out.size
    by_cases hltk : k < A.length
    · have hltz : (k : Int) < (A.length : Int) := by omega
      obtain ⟨b, o, rfl, hbW, hcell⟩ := row_cell HA.out HB.out (by rw [ofN_length]; exact hltk)
      rw [ofN_getD hltk] at hcell
      have hak := HLT.out A[k] (List.getElem_mem hltk)
      have HTS := Lib.hid (show (A.map f).take (k + 1) = (A.map f).take k ++ [f A[k]] by
        rw [List.take_succ_eq_append_getElem (by simpa using hltk)]; simp)
      obtain ⟨a, ha⟩ : ∃ a, A[k] = a := ⟨_, rfl⟩
      rw [ha] at hcell hak HTS
      clear ha
      have hakz : (a : Int) < (s.length : Int) := by omega
      obtain ⟨b', o', rfl, hbW', hcell'⟩ := row_cell HS.out HB.out hak
      rw [HF.out a] at hcell'
      obtain ⟨r, hr⟩ : ∃ r, f a = r := ⟨_, rfl⟩
      rw [hr] at hcell' HTS
      clear hr
      have hlen : ((A.map f).take k).length ≤ 100000 := by simp; omega
      go_wp2_with (at_builtin; refine wpList_own_push rfl _ _ 36 rfl 21 .i32 4 Tryz.underlying36 info_rune (by decide) W.heap.size _ _ rfl (HO.out.alloc _) wr.heap.size 1 1 [r] rfl rfl ?newCells ?lenOk ?below ?_)
      case newCells => exact oneI _ _ _ _
      case lenOk => omega
      case below => simp; omega
      intro v' w4 hown4 hgrow4
      have HB4 := Lib.hid ((HB.out.alloc hsz2 _).grown hgrow4 (by simp; omega) (fun g hg => HO.out.lt g hg))
      have HO4 := Lib.hid hown4; clear hown4 hgrow4
      go_wp2_with fail
      go_roundg (A.length - (k + 1))
      case measure => omega
      case rel => exact Lib.hid ⟨k + 1, by go_num, by omega, by omega, HB4.out, by rw [HTS.out]; exact HO4.out⟩
    · obtain rfl : k = A.length := by omega
      have hltz : ¬ (A.length : Int) < (A.length : Int) := by omega
      go_wp2_with fail
      go_ret
      exact ⟨_, rfl, HB.out, by have := HO.out; rw [List.take_of_length_le (by simp)] at this; exact this⟩

/-- append of one number onto a row of the call's own, at a step of a region that draws its order. -/
theorem step_own_push {P : Program} {w : World} {ops : Array Oper} {o : Oper} {a : Act} {K : Act → World → Prop} {Q : Exit → Act → World → Prop} {E : Prop} (hgd : o.guard = none) (s x : Operand) (t : TypeId)
    (ho : o.op = .call { callee := .builtin .append, args := #[s, x], argTypes := #[t, t] })
    (e : TypeId) (k : IntKind) (bytes : Nat) (h1 : P.underlying t = some (.slice e)) (hinfo : (P.info? e).map (fun i => (i.zero, i.size, i.bytes)) = some (some (.int k 0), 1, bytes)) (hby : bytes ≤ 8)
    (B : Nat) (v : Value) (xs : List Int) (hs : a.eval s = v) (hown : Own w B e k v xs)
    (G c : Nat) (y : Int) (hx : a.eval x = .slice (some ⟨G, 0, none⟩) 1 c) (hc : w.cell? ⟨G, 0, none⟩ = some (.int k y)) (hlen : xs.length + 1 ≤ 1000000) (hB : B ≤ w.heap.size)
    (hK : ∀ p n c' w', n = (xs ++ [y]).length → Row w' k p (xs ++ [y]) → Below B w w' → K (a.put o.dst (.slice p n c')) w') :
    if Region.wanted o (yielded ops a.tmps) = true then Oper.wp P o a w K Q else E := by
  obtain ⟨i0, hi, hz0, hz1, hz2⟩ := info_parts hinfo
  refine step_append_lies w hgd s x t ho B e i0 (.int k 0) 1 bytes h1 hi hz0 hz1 hz2 rfl (by decide) v xs.length (xs.map (Value.int k)) hs hown ⟨G, 0, none⟩ 1 c [.int k y] hx rfl ?_ ?_ (by omega) (by unfold maxLen; omega) ?_ hB _ rfl ?_
  · intro j u hj
    obtain ⟨hj', rfl⟩ := List.getElem?_eq_some_iff.1 hj
    simp only [List.length_singleton] at hj'
    obtain rfl : j = 0 := by omega
    rw [Addr.add_lit, hc]; rfl
  · intro u hu
    rw [List.mem_singleton.1 hu]; rfl
  · have : (xs.length + 1) * bytes ≤ (xs.length + 1) * 8 := Nat.mul_le_mul_left _ hby
    omega
  · intro g cap w' ho' hgr _ _
    have hown' : Own w' B e k (.slice (some ⟨g, 0, none⟩) (xs.length + 1) cap) (xs ++ [y]) := by
      unfold Own
      rw [List.length_append, List.map_append]
      exact ho'
    obtain ⟨p, c', hv, _, hr⟩ := Own.row hown'
    injection hv with hp hn hcc
    refine hK _ _ _ _ (by simp) (hp ▸ hr) ?_
    exact (Below.refl B w).grown hgr hB fun g' hg' => (World.ownsRow.lt hown g' hg').1

theorem heap_new1 (w : World) (o1 o2 : Obj) : ((w.alloc o1).alloc o2).heap[w.heap.size + 1]? = some o2 := by
  have := heap_new (w.alloc o1) o2
  rwa [World.size_alloc] at this
/-- what is gone, at block g. -/
def GoneAt (w : World) (B g : Nat) (gone : List Bool) : Prop := w.ownsRow B 4 1 (.slice (some ⟨g, 0, none⟩) gone.length gone.length) gone.length (gone.map Value.bool)
theorem GoneAt.cell {w : World} {B g : Nat} {gone : List Bool} (h : GoneAt w B g gone) {j : Nat} (hj : j < gone.length) : w.cell? ⟨g, j, none⟩ = some (.bool (gone.getD j false)) := by
  have := World.ownsRow.cellAt h j (by omega)
  rw [this]
  simp [List.getD, hj]
theorem GoneAt.froz {w : World} {B g : Nat} {gone : List Bool} (h : GoneAt w B g gone) (j : Nat) : w.frozen? ⟨g, j, none⟩ = false := World.ownsRow.frozenAt h j
theorem GoneAt.set {w : World} {B g : Nat} {gone : List Bool} (h : GoneAt w B g gone) (j : Nat) (b : Bool) : GoneAt (w.setCell ⟨g, j, none⟩ (.bool b)) B g (gone.set j b) := by
  have := (World.ownsRow.stored h j (.bool b)).1
  unfold GoneAt
  rw [List.length_set, List.map_set]
  exact this
theorem GoneAt.below {w w' : World} {B g : Nat} {gone : List Bool} (h : GoneAt w B g gone) (hb : Below w.heap.size w w') : GoneAt w' B g gone := by
  obtain ⟨h1, h2 | ⟨g', cap, cur, hv, hg, hh, hr⟩⟩ := h
  · exact ⟨h1, Or.inl h2⟩
  · exact ⟨h1, Or.inr ⟨g', cap, cur, hv, hg, (hb.block g' (Array.getElem?_eq_some_iff.1 hh).1).trans hh, hr⟩⟩
theorem GoneAt.kept {w w' : World} {B B' g : Nat} {gone : List Bool} (h : GoneAt w B g gone) (hb : Below B' w w') (hlt : g < B') : GoneAt w' B g gone := by
  obtain ⟨h1, h2 | ⟨g', cap, cur, hv, hg, hh, hr⟩⟩ := h
  · exact ⟨h1, Or.inl h2⟩
  · injection hv with hp hn hc
    injection hp with hp
    injection hp with hp _ _
    subst hp; subst hc
    exact ⟨h1, Or.inr ⟨g, gone.length, cur, rfl, hg, (hb.block g hlt).trans hh, hr⟩⟩
theorem GoneAt.lt {w : World} {B g : Nat} {gone : List Bool} (h : GoneAt w B g gone) : B ≤ g ∧ g < w.heap.size := World.ownsRow.lt h g rfl
end Go.Proofs.YticjgmhgpeihjaaGreatDoor
namespace Go.Proofs.YticjgmhgpeihjaaGreatDoor
open Go.RowKit Go.Gz Go.Sort

/-- what the search of the longest row has found. -/
def LgAt (rs : List WR) : Option (Nat × WR) → Value → Value → Prop
  | none, n, b => n = .int .i64 0 ∧ b = .int .i64 (-1)
  | some (m, x), n, b => n = .int .i64 (m : Int) ∧ ∃ i : Nat, i < rs.length ∧ rs[i]! = x ∧ b = .int .i64 (i : Int)
def ReOut (w3 : World) (f : Nat → Int) (cls : Int → Int) (row : List Int → Option WR) (n : Nat) (res : List EL) (vo vi : Value) (wr : World) (gk : Nat) : Prop :=
  ∃ (i : Nat) (gone : List Bool) (xs : List EL), vi = .int .i64 (i : Int) ∧ i ≤ n ∧ n - i ≤ gk ∧ gone.length = n ∧ Below w3.heap.size w3 wr ∧ GoneAt wr w3.heap.size w3.heap.size gone ∧ OwnE wr (w3.heap.size + 1) vo xs ∧ res = xs ++ weighG f cls row (liveF gone i n)
def ReAt (wo : World) (gone : List Bool) (i n : Nat) (va vk : Value) (wr : World) (gk : Nat) : Prop :=
  ∃ k : Nat, vk = .int .i64 (k : Int) ∧ i ≤ k ∧ k ≤ n ∧ n - k ≤ gk ∧ Below wo.heap.size wo wr ∧ Own wr wo.heap.size 3 .i64 va (ofN (liveF gone i k))
def ReLg (w4 : World) (rs : List WR) (f : Nat → Int) (row : List Int → Option WR) (A : List Nat) (vn vb vk : Value) (wr : World) (gk : Nat) : Prop :=
  ∃ k : Nat, vk = .int .i64 (k : Int) ∧ 1 ≤ k ∧ k ≤ 4 ∧ 4 - k ≤ gk ∧ Below w4.heap.size w4 wr ∧ LgAt rs (longTo f row A (k - 1)) vn vb
structure ReTk (w5 : World) (rs : List WR) (f : Nat → Int) (cls : Int → Int) (row : List Int → Option WR) (x0 : WR) (A : List Nat) (n0 : Nat) (best : WR) (passed : Int) (used : List Nat) (k bi : Nat) (vb vu : Value) (wr : World) : Prop where
  ib : bi < rs.length
  ix : rs[bi]! = best
  vb : vb = .int .i64 (bi : Int)
  tk : Tk f cls row x0 A n0 best passed used k
  b : Below w5.heap.size w5 wr
  own : Own wr w5.heap.size 3 .i64 vu (ofN used)
def TkIn (w5 : World) (rs : List WR) (f : Nat → Int) (cls : Int → Int) (row : List Int → Option WR) (x0 : WR) (A : List Nat) (n0 : Nat) (vb vu vp vk : Value) (wr : World) (gk : Nat) : Prop :=
  ∃ best passed used k bi, vp = .int .i64 passed ∧ vk = .int .i64 ((k : Nat) : Int) ∧ A.length - k ≤ gk ∧ ReTk w5 rs f cls row x0 A n0 best passed used k bi vb vu wr
def TkOut (w5 : World) (rs : List WR) (f : Nat → Int) (cls : Int → Int) (row : List Int → Option WR) (x0 : WR) (A : List Nat) (n0 : Nat) (vb vu : Value) (wr : World) : Prop :=
  ∃ best passed used k bi, ReTk w5 rs f cls row x0 A n0 best passed used k bi vb vu wr ∧ (k = A.length ∨ ∃ hk : k < A.length, cls (f A[k]) = 0)
def MkRel (w2 w5 : World) (_n : Nat) (gone : List Bool) (xs : List EL) (used : List Nat) (vu vo v : Value) (wr : World) (gk : Nat) : Prop :=
  ∃ j : Nat, v = .int .i64 (j : Int) ∧ j ≤ used.length ∧ used.length - j ≤ gk ∧ Below w2.heap.size w2 wr ∧ GoneAt wr w2.heap.size w2.heap.size (marks gone (used.take j)) ∧ OwnE wr (w2.heap.size + 1) vo xs ∧ Own wr w5.heap.size 3 .i64 vu (ofN used)
/-- the answer of the reference's Elements. -/
def RefEls (T : TB) (s : List Int) (W : World) (e : Ending) (w' : World) : Prop :=
  Below W.heap.size W w' ∧ ((mayWB T.ls T.rs T.top = false ∧ e = .returned (.tuple #[.slice none 0 0, .int .i64 4])) ∨
    (mayWB T.ls T.rs T.top = true ∧ s.any mayNotB = true ∧ e = .returned (.tuple #[.slice none 0 0, .int .i64 2])) ∨
    (mayWB T.ls T.rs T.top = true ∧ s.any mayNotB = false ∧ ∃ v, e = .returned (.tuple #[v, .int .i64 0]) ∧ OwnE w' W.heap.size v (elemL T.ls T.rs s)))

theorem s_keep {wq w : World} {b0 b1 b2 o1 o2 : Nat} {v0 v1 v2 v3 v4 v5 : Value} (hb : Below wq.heap.size wq w) (h0 : b0 < wq.heap.size) (h1 : b1 < wq.heap.size) (h2 : b2 < wq.heap.size)
    (c0 : wq.cell? ⟨b0, 0, none⟩ = some v0) (c1 : wq.cell? ⟨b0, 1, none⟩ = some v1) (c2 : wq.cell? ⟨b0, 2, none⟩ = some v2) (c3 : wq.cell? ⟨b0, 3, none⟩ = some v3) (c4 : wq.cell? ⟨b1, o1, none⟩ = some v4) (c5 : wq.cell? ⟨b2, o2, none⟩ = some v5) :
    w.cell? ⟨b0, 0, none⟩ = some v0 ∧ w.cell? ⟨b0, 1, none⟩ = some v1 ∧ w.cell? ⟨b0, 2, none⟩ = some v2 ∧ w.cell? ⟨b0, 3, none⟩ = some v3 ∧ w.cell? ⟨b1, o1, none⟩ = some v4 ∧ w.cell? ⟨b2, o2, none⟩ = some v5 :=
  ⟨cellB hb c0 h0, cellB hb c1 h0, cellB hb c2 h0, cellB hb c3 h0, cellB hb c4 h1, cellB hb c5 h2⟩

set_option maxHeartbeats 8000000 in
set_option maxRecDepth 100000 in
theorem refElements_is (T : TB) (s : List Int) (q : Option Addr) (c : Nat) (W : World) (hT : TabIn W T) (hl1 : T.ls.length ≤ 100) (hl2 : T.rs.length ≤ 100) (hs : Row W .i32 q s) (hz : s.length ≤ 1000) :
    Calls Tryz.prog 21 #[.agg #[.slice T.lp T.ls.length T.lc, .slice T.rp T.rs.length T.rc, .int .i64 T.top, .bool T.sh], .slice q s.length c] W (RefEls T s W) := by
  have HT := Lib.hid hT; clear hT
  have HS := Lib.hid hs; clear hs
  go_enter Tryz.func21, Tryz.ntmps21
  go_wp2_with fail
  obtain ⟨w0, hw0⟩ : ∃ w0, W.alloc (.cells #[.slice T.lp T.ls.length T.lc, .slice T.rp T.rs.length T.rc, .int .i64 T.top, .bool T.sh] 25) = w0 := ⟨_, rfl⟩
  rw [hw0]
  have HB0 := Lib.hid (show Below W.heap.size W w0 from hw0 ▸ (Below.refl _ _).alloc (Nat.le_refl _) _)
  have HX0 := Lib.hid (show BoxAt w0 W.heap.size T from hw0 ▸ BoxAt.new W T _)
  clear hw0
  have htm := Lib.hid (refTableMay_is T.lp T.ls T.lc T.rp T.rs T.rc T.top T.sh w0 (HT.out.lore.below HB0.out) (HT.out.rows.below HB0.out) (by omega) (by omega) HT.out.bx HT.out.by_)
  have HL := Lib.hid (show T.ls.length ≤ 100 ∧ T.rs.length ≤ 100 ∧ s.length ≤ 1000 from ⟨hl1, hl2, hz⟩)
  clear hl1 hl2 hz
  refine htm.out.mono ?_
  rintro e w1 ⟨rfl, hb1⟩
  have HX1 := Lib.hid (HX0.out.below hb1)
  have HB1 := Lib.hid (HB0.out.trans (hb1.mono HB0.out.size))
  clear hb1 htm
  obtain ⟨_, t0, _, _, _⟩ := HX1.out
  cases hmw : mayWB T.ls T.rs T.top with
  | false =>
    have HMW := Lib.hid hmw
    clear hmw
    go_wp2_with fail
    go_ret2
    exact ⟨HB1.out, Or.inl ⟨HMW.out, rfl⟩⟩
  | true =>
    have HMW := Lib.hid hmw
    have hml := mayW_lore hmw
    clear hmw
    have hT1 := HT.out.at_ HB1.out HL.out.1 HL.out.2.1
    have hno := Lib.hid (refNormal_may T.ls hml T.lp T.lc s q c w1 hT1.lore (HS.out.below HB1.out) hT1.few.1 HT.out.bx (by have := HL.out.2.2; omega))
    have HML := Lib.hid hml
    clear hT1 hml
    go_wp2_with fail
    refine hno.out.mono ?_
    rintro e w2 ⟨hb2, ⟨hval, rfl⟩ | ⟨hval, v2, rfl, hown2⟩⟩
    · have HV := Lib.hid hval
      have HB2 := Lib.hid (HB1.out.trans (hb2.mono HB1.out.size))
      clear hb2 hno t0 hval
      go_wp2_with fail
      go_ret2
      exact ⟨HB2.out, Or.inr (Or.inl ⟨HMW.out, HV.out, rfl⟩)⟩
    · obtain ⟨q2, c2, rfl, _, hrow2⟩ := own_slice hown2
      have HX2 := Lib.hid (HX1.out.below hb2)
      have HB2 := Lib.hid (HB1.out.trans (hb2.mono HB1.out.size))
      have HR2 := Lib.hid hrow2
      have HV := Lib.hid hval
      clear hb2 hno t0 hown2 hrow2 hval
      have hres4 := elem_few HMW.out s
      have hnl : (normalL T.ls s).length ≤ 3000 := by rw [normal_length]; have := apart_le (le3_of (may_wrong HML.out)) s; have := HL.out.2.2; omega
      have HVN := Lib.hid (valid_normal HML.out HV.out)
      obtain ⟨res, hres⟩ : ∃ res, elemL T.ls T.rs s = res := ⟨_, rfl⟩
      rw [hres] at hres4
      have HRES := Lib.hid hres
      unfold elemL at hres
      rw [← weigh_index] at hres
      obtain ⟨ns, hns⟩ : ∃ ns, normalL T.ls s = ns := ⟨_, rfl⟩
      rw [hns] at HR2 hres4 hnl HVN hres ⊢
      clear hns
      obtain ⟨f, hf⟩ : ∃ f : Nat → Int, (fun i => ns.getD i 0) = f := ⟨_, rfl⟩
      rw [hf] at hres
      obtain ⟨row, hrow⟩ : ∃ row, rowL T.rs = row := ⟨_, rfl⟩
      rw [hrow] at hres
      have HF := Lib.hid hf
      have HROWL := Lib.hid hrow
      have HRES2 := Lib.hid hres
      have hrl : res.length ≤ 12000 := by omega
      clear hf hrow hres hres4
      -- the callees
      have HTK := Lib.hid (show ∀ (A : List Nat) (qa : Option Addr) (ca : Nat) (w : World), Below w2.heap.size w2 w → Row w .i64 qa (ofN A) → (∀ a ∈ A, a < ns.length) → A.length ≤ 100000 → Calls Tryz.prog 39 #[.slice q2 ns.length c2, .slice qa A.length ca] w (RetOwn w (A.map f)) from fun A qa ca w hb hA hlt hAz => by
        have := refTake_any ns q2 c2 A qa ca w (HR2.out.below hb) hA hlt hAz (by omega)
        rwa [HF.out] at this)
      have HRW := Lib.hid (fun k qa d w (hb : Below w2.heap.size w2 w) (hk : Row w .i32 qa k) hkz => refRow_any T k qa d w (HT.out.at_ (HB2.out.trans (hb.mono HB2.out.size)) HL.out.1 HL.out.2.1) hk hkz)
      have HCL := Lib.hid (fun r w (hb : Below w2.heap.size w2 w) => refClass_any T.ls (may_rising HML.out) T.lp T.lc r w (HT.out.lore.below (HB2.out.trans (hb.mono HB2.out.size))) (by have := HL.out.1; omega))
      have hs2 := HB2.out.size
      obtain ⟨i0, hi, hz0, hz1, hz2⟩ := info_parts info_bool
      go_wp2_with (at_make; refine wpList_make_full _ rfl _ _ 82 rfl w2.heap.size 4 i0 (.bool false) 1 Tryz.underlying82 hi hz0 hz1 _ _ _ _ ns.length rfl rfl rfl rfl ?by1 ?by2 (Nat.le_refl _) ?_)
      case by1 => rw [hz2]; omega
      case by2 => unfold maxLen; omega
      intro w3 hown3 hgrow3
      have HB3 := Lib.hid ((Below.refl w2.heap.size w2).grown hgrow3 (Nat.le_refl _) (fun g hg => by cases hg))
      have HG3 := Lib.hid (show GoneAt w3 w2.heap.size w2.heap.size (List.replicate ns.length false) by
        unfold GoneAt
        rw [List.length_replicate, List.map_replicate]
        have e := toList_madeCells_one (.bool false) ns.length
        rw [← e]
        simpa using hown3)
      clear hown3 hgrow3 hi hz0 hz1 hz2
      go_wp2_with fail
      go_loopg [9, 10] ns.length (fun gk vo vi wr => Hid (ReOut w2 f (clsL T.ls) row ns.length res vo vi wr gk))
      case atStart => exact Lib.hid ⟨0, List.replicate ns.length false, [], rfl, Nat.zero_le _, by omega, by simp, HB3.out, HG3.out, OwnE.nil _ _, by rw [liveF_all, List.nil_append]; exact HRES2.out.symm⟩
      case round =>
        clear HB3 HG3
        have hrel' := hrel.out
        clear hrel
        obtain ⟨i, gone, xs, rfl, hin, hgk, hgl, hb, hgone, hown, heq⟩ := hrel'
        have HB := Lib.hid hb
        have HG := Lib.hid hgone
        have HO := Lib.hid hown
        have HE := Lib.hid heq
        have hsr := hb.size
        clear hb hown heq
        by_cases hlt : i < ns.length
        · have hltz : (i : Int) < (ns.length : Int) := by omega
          obtain ⟨hgB, hgw⟩ := hgone.lt
          have tg := hgone.cell (j := i) (by omega)
          have HGL := Lib.hid hgl
          clear hgone hgl
          obtain ⟨gi, hgi⟩ : ∃ gi, gone.getD i false = gi := ⟨_, rfl⟩
          rw [hgi] at tg
          have HGI := Lib.hid hgi
          clear hgi
          cases gi with
          | true =>
            go_wp2_with fail
            go_roundg (ns.length - (i + 1))
            case measure => omega
            case rel => exact Lib.hid ⟨i + 1, gone, xs, by go_num, by omega, by omega, HGL.out, HB.out, HG.out, HO.out, by rw [HE.out, liveF_gone hlt HGI.out]⟩
          | false =>
            go_wp2_with fail
            obtain ⟨wo, hwo⟩ : ∃ wo, wo = wr := ⟨_, rfl⟩
            subst hwo
            have HGW := Lib.hid (fun w (hb : Below wo.heap.size wo w) => HG.out.below hb)
            go_loopg [11, 12] ns.length (fun g2 va vk w2 => Hid (ReAt wo gone i ns.length va vk w2 g2))
            case atStart => exact Lib.hid ⟨i, rfl, Nat.le_refl _, by omega, by omega, Below.refl _ _, by
              have e : liveF gone i i = [] := by simp [liveF]
              rw [e]; exact Own.nil _ _ _ _⟩
            case round =>
              have hrel' := hrel.out
              clear hrel
              obtain ⟨k, rfl, hik, hkn, hgk2, hb2, hown2⟩ := hrel'
              have HB2k := Lib.hid hb2
              have HO2k := Lib.hid hown2
              have hs2k := hb2.size
              clear hb2 hown2
              clear tg
              by_cases hltk : k < ns.length
              · have hltkz : (k : Int) < (ns.length : Int) := by omega
                have tg := (HGW.out _ HB2k.out).cell (j := k) (by rw [HGL.out]; omega)
                have HSN := Lib.hid (liveF_snoc (gone := gone) hik)
                obtain ⟨gk', hgk'⟩ : ∃ gk', gone.getD k false = gk' := ⟨_, rfl⟩
                rw [hgk'] at tg HSN
                clear hgk'
                cases gk' with
                | true =>
                  go_wp2_with fail
                  go_roundg (ns.length - (k + 1))
                  case measure => omega
                  case rel => exact Lib.hid ⟨k + 1, by go_num, by omega, by omega, by omega, HB2k.out, by rw [HSN.out]; exact HO2k.out⟩
                | false =>
                  have hlen := liveF_length gone i k
                  go_wp2_with (at_builtin; refine wpList_own_push rfl _ _ 55 rfl 3 .i64 8 Tryz.underlying55 info_int (by decide) wo.heap.size _ _ rfl (HO2k.out.alloc _) _ 1 1 [(k : Int)] rfl rfl ?newCells ?lenOk ?below ?_)
                  case newCells => exact oneI _ _ _ _
                  case lenOk => rw [ofN_length]; omega
                  case below => simp; omega
                  intro v' w4 hown4 hgrow4
                  have HB4 := Lib.hid ((HB2k.out.alloc hs2k _).grown hgrow4 (by simp; omega) (fun g hg => HO2k.out.lt g hg))
                  have HO4 := Lib.hid hown4; clear hown4 hgrow4
                  go_wp2_with fail
                  go_roundg (ns.length - (k + 1))
                  case measure => omega
                  case rel => exact Lib.hid ⟨k + 1, by go_num, by omega, by omega, by omega, HB4.out, by
                    rw [HSN.out]
                    have := HO4.out
                    rw [← ofN_snoc] at this
                    exact this⟩
              · obtain rfl : k = ns.length := by omega
                have hltkz : ¬ (ns.length : Int) < (ns.length : Int) := by omega
                obtain ⟨w4, hw4⟩ : ∃ w4, w4 = wr := ⟨_, rfl⟩
                subst hw4
                obtain ⟨A, hA⟩ : ∃ A, liveF gone i ns.length = A := ⟨_, rfl⟩
                rw [hA] at HO2k
                have hApos : 0 < A.length := by rw [← hA, liveF_live hlt HGI.out]; simp
                have hAle : A.length ≤ 3000 := by rw [← hA]; have := liveF_length gone i ns.length; omega
                have HAlt := Lib.hid (show ∀ a ∈ A, a < ns.length from fun a ha => (liveF_mem (hA.symm ▸ ha)).2)
                have HAeq := Lib.hid hA
                clear hA
                obtain ⟨pa, ca, hva, hcaA, hrowA⟩ := Own.row HO2k.out
                obtain ⟨ga, ca', hva', hBga, hgaw⟩ := World.ownsRow.form HO2k.out (by rw [ofN_length]; exact hApos)
                subst hva
                injection hva' with hp1 _ hc1
                subst hp1
                subst hc1
                rw [ofN_length] at hcaA
                have HRA := Lib.hid hrowA
                clear hrowA HO2k
                have HW4 := Lib.hid (HB.out.trans (HB2k.out.mono hsr))
                have hs4 := HW4.out.size
                have hcaz : (A.length : Int) ≤ (ca : Int) := by omega
                rw [ofN_length]
                go_wp2_with fail
                go_loopg [13, 14, 15] 4 (fun g3 vn vb vk w5 => Hid (ReLg w4 T.rs f row A vn vb vk w5 g3))
                case atStart => exact Lib.hid ⟨1, rfl, Nat.le_refl _, by omega, by omega, Below.refl _ _, rfl, rfl⟩
                case round =>
                  have hrel' := hrel.out
                  clear hrel
                  obtain ⟨k, rfl, hk1, hk4, hgk3, hb5, hlg⟩ := hrel'
                  have HB5 := Lib.hid hb5
                  have HLG := Lib.hid hlg
                  have hs5 := hb5.size
                  clear hb5 hlg
                  go_upto_region 20 with fail
                  go_cut [73] from 66 to 86 (fun v wx => ∃ bv : Bool, v = .bool bv ∧ (bv = true → k ≤ 3 ∧ k ≤ A.length) ∧ (bv = false → ¬ k ≤ 3 ∨ ¬ k ≤ A.length) ∧ wx = wr)
                  case first =>
                    by_cases hk3 : k ≤ 3
                    · have hk3z : (k : Int) ≤ 3 := by omega
                      by_cases hkA : k ≤ A.length
                      · have hkAn : decide (k ≤ A.length) = true := decide_eq_true hkA
                        go_wp2_with fail
                        go_meet
                        exact ⟨true, rfl, fun _ => ⟨hk3, hkA⟩, fun h => (by cases h), rfl⟩
                      · have hkAn : decide (k ≤ A.length) = false := decide_eq_false hkA
                        go_wp2_with fail
                        go_meet
                        exact ⟨false, rfl, fun h => (by cases h), fun _ => Or.inr hkA, rfl⟩
                    · have hk3z : decide ((k : Int) ≤ 3) = false := decide_eq_false (by omega)
                      go_wp2_with fail
                      go_meet
                      exact ⟨false, rfl, fun h => (by cases h), fun _ => Or.inl hk3, rfl⟩
                  case rest =>
                  obtain ⟨bv, rfl, hbt, hbf, hwc⟩ := hcut
                  obtain rfl : wr = wc := hwc.symm
                  clear hwc
                  cases bv with
                  | true =>
                    obtain ⟨hk3, hkA⟩ := hbt rfl
                    clear hbt hbf
                    have hkcz : (k : Int) ≤ (ca : Int) := by omega
                    have hk0z : (0 : Int) ≤ (k : Int) := by omega
                    have HST := Lib.hid (longTo_atk (f := f) (row := row) A hk1 hkA)
                    have htl : (A.take k).length = k := by rw [List.length_take]; omega
                    have hkl : ((A.take k).map f).length = k := by rw [List.length_map]; exact htl
                    have htk := HTK.out (A.take k) (some ⟨ga, 0, none⟩) ca
                    rw [htl] at htk
                    have HTKk := Lib.hid (fun w (hb : Below w4.heap.size w4 w) => htk w (HW4.out.trans (hb.mono hs4)) (by rw [ofN_take]; exact (HRA.out.below hb).take k) (fun a ha => HAlt.out a (List.mem_of_mem_take ha)) (by omega))
                    clear htk
                    have HRWk := Lib.hid (fun qa d w (hb : Below w4.heap.size w4 w) hr => HRW.out ((A.take k).map f) qa d w (HW4.out.trans (hb.mono hs4)) hr (by omega))
                    obtain ⟨key, hkey⟩ : ∃ key, (A.take k).map f = key := ⟨_, rfl⟩
                    rw [hkey] at HTKk HRWk HST hkl
                    obtain ⟨ix, hix⟩ : ∃ ix, rowIx T.rs key = ix := ⟨_, rfl⟩
                    rw [hix] at HRWk
                    have HIX := Lib.hid hix
                    clear hkey htl hix
                    have HX5 := Lib.hid (HX2.out.below (HW4.out.trans (HB5.out.mono hs4)))
                    have hx5 := HX5.out.lt
                    obtain ⟨_, t0, t1, t2, t3⟩ := HX5.out
                    have mx := mixedL
                    have HBd := Lib.hid HB5.out.drew
                    have HKL := Lib.hid hkl
                    clear hkl
                    go_upto_region 22 with fail
                    go_cut [16] from 66 to 86 (fun v wx => v = .int .i64 ix ∧ Hid (Below wr.heap.size wr wx))
                    case first =>
                      go_region_with (first
                        | (go_at_call 39; refine (HTKk.out _ HBd.out).mono ?_; rintro e w6 ⟨v6, rfl, hb6, hown6⟩; obtain ⟨q6, c6, rfl, _, hr6⟩ := Own.row hown6; have HB6 := Lib.hid (show Below wr.heap.size wr w6 from (Below.refl wr.heap.size wr).drew.trans hb6); have HRk := Lib.hid (HRWk.out q6 c6 w6 (HB5.out.trans (HB6.out.mono hs5)) hr6); have u0 := cellB hb6 t0 hx5; have u1 := cellB hb6 t1 hx5; have u2 := cellB hb6 t2 hx5; have u3 := cellB hb6 t3 hx5; clear hb6 hown6 hr6)
                        | (go_at_call 38; refine HRk.out.mono ?_; rintro e w7 ⟨rfl, hb7⟩; have HB7 := Lib.hid (HB6.out.trans (hb7.mono HB6.out.size)); clear hb7))
                      all_goals (go_wp2_with fail; go_meet)
                      all_goals exact ⟨rfl, HB7⟩
                    case rest =>
                      obtain ⟨rfl, HBx⟩ := hcut
                      have HB5' := Lib.hid (HB5.out.trans (HBx.out.mono hs5))
                      clear t0 t1 t2 t3 HTKk HRWk HBd HX5
                      rcases rowIx_cases T.rs key with ⟨bi, hbi, hrl, hix⟩ | ⟨hrl, hix⟩
                      · obtain rfl : ix = (bi : Int) := HIX.out.symm.trans hix
                        have hb0 : (0 : Int) ≤ (bi : Int) := by omega
                        have HLG' := Lib.hid (show LgAt T.rs (longTo f row A (k + 1 - 1)) (.int .i64 (k : Int)) (.int .i64 (bi : Int)) by
                          rw [Nat.add_sub_cancel, HST.out, ← HROWL.out, hrl]; exact ⟨rfl, bi, hbi, rfl, rfl⟩)
                        clear hix hrl
                        go_wp2_with fail
                        go_roundg (4 - (k + 1))
                        case measure => omega
                        case rel => exact Lib.hid ⟨k + 1, by go_num, by omega, by omega, by omega, HB5'.out, HLG'.out⟩
                      · obtain rfl : ix = -1 := HIX.out.symm.trans hix
                        have HLG' := Lib.hid (show longTo f row A (k + 1 - 1) = longTo f row A (k - 1) by rw [Nat.add_sub_cancel, HST.out, ← HROWL.out, hrl])
                        clear hix hrl
                        go_wp2_with fail
                        go_roundg (4 - (k + 1))
                        case measure => omega
                        case rel => exact Lib.hid ⟨k + 1, by go_num, by omega, by omega, by omega, HB5'.out, by rw [HLG'.out]; exact HLG.out⟩
                  | false =>
                    have HL3 := Lib.hid (show LgAt T.rs (longTo f row A 3) u13 u14 by rw [longTo_end A hk1 hk4 (hbf rfl)]; exact HLG.out)
                    clear hbt hbf HLG
                    obtain ⟨w5, hw5⟩ : ∃ w5, w5 = wr := ⟨_, rfl⟩
                    subst hw5
                    have HW5 := Lib.hid (HW4.out.trans (HB5.out.mono hs4))
                    have HBo5 := Lib.hid (HB2k.out.trans (HB5.out.mono hs2k))
                    have hs5' := HW5.out.size
                    cases hq : longTo f row A 3 with
                    | none =>
                      have hl3 := HL3.out
                      rw [hq] at hl3
                      obtain ⟨rfl, rfl⟩ := hl3
                      have HQ := Lib.hid hq
                      clear hq HL3
                      obtain ⟨b2, o2, rfl, hb2W, cr⟩ := row_cell HR2.out HW5.out hlt
                      have hvr := valid_range (show mayNotB (ns.getD i 0) = false by
                        have := List.any_eq_false.1 HVN.out (ns.getD i 0) (by simp [List.getD, hlt])
                        simpa using this)
                      rw [show ns.getD i 0 = f i from congrFun HF.out i] at cr hvr
                      obtain ⟨r, hr⟩ : ∃ r, f i = r := ⟨_, rfl⟩
                      rw [hr] at cr hvr
                      have him := Lib.hid (fun w => refImpl_any r hvr.1 hvr.2 w)
                      have HWN := Lib.hid (show weighG f (clsL T.ls) row (liveF gone i ns.length) = impl r ++ weighG f (clsL T.ls) row (liveF gone (i + 1) ns.length) by
                        rw [liveF_live hlt HGI.out]
                        have := HQ.out
                        rw [← HAeq.out, liveF_live hlt HGI.out] at this
                        rw [weigh_none f _ row this, hr])
                      clear hvr hr
                      go_wp2_with fail
                      refine (him.out _).mono ?_
                      rintro e w6 ⟨rfl, hb6⟩
                      have HBo6 := Lib.hid (HBo5.out.trans (hb6.mono HBo5.out.size))
                      clear hb6 him cr
                      have hs6 := HBo6.out.size
                      have HB7 := Lib.hid (HBo6.out.alloc hs6 (.cells #[.int .i64 (64000 + r / 3999), .int .i64 32, .int .i64 2, .int .i64 (60001 + r % 3999), .int .i64 0, .int .i64 0] 84))
                      have hels := Lib.hid (show Els (w6.alloc (.cells #[.int .i64 (64000 + r / 3999), .int .i64 32, .int .i64 2, .int .i64 (60001 + r % 3999), .int .i64 0, .int .i64 0] 84)) (some ⟨w6.heap.size, 0, none⟩) (impl r) from els_impl (heap_new _ _))
                      have hels2 := Lib.hid (fun w g t fr h => els_impl (w := w) (g := g) (r := r) (t := t) (fr := fr) h)
                      have HO7 := Lib.hid (HO.out.below HB7.out)
                      have hs7 := HB7.out.size
                      simp only [World.size_alloc] at hs7
                      have hxl : xs.length ≤ 12000 := by
                        have := congrArg List.length HE.out
                        rw [List.length_append] at this
                        omega
                      go_wp2_with (at_builtin; refine wpList_ownE_row rfl _ _ rfl (w2.heap.size + 1) _ xs rfl (HO7.out.below ((Below.refl _ _).alloc (Nat.le_refl _) _)) (some ⟨w6.heap.size + 1, 0, none⟩) 2 (impl r) rfl ?elsOk ?nocap ?lenOk ?below ?_)
                      case elsOk => exact hels2.out _ _ _ _ (heap_new1 _ _ _)
                      case nocap => exact fun h => by cases h
                      case lenOk => have : (impl r).length = 2 := rfl; omega
                      case below => simp only [World.size_alloc]; have := HB.out.size; have := HG.out.lt; omega
                      intro v8 w8 hown8 hgrow8
                      have HO8 := Lib.hid hown8
                      have HBg := Lib.hid (((Below.refl (w2.heap.size + 1) wo).trans ((HB7.out.alloc HB7.out.size _).mono (by have := HG.out.lt; omega))).grown hgrow8 (by simp only [World.size_alloc]; have := HG.out.lt; have := HBo6.out.size; omega) (fun g hg => HO7.out.lt g hg))
                      clear hown8 hgrow8 hels hels2
                      have HB8 := Lib.hid (HB.out.trans (HBg.out.mono (Nat.le_succ _)))
                      have HG8 := Lib.hid (HG.out.kept HBg.out (Nat.lt_succ_self _))
                      go_wp2_with fail
                      go_roundg (ns.length - (i + 1))
                      case measure => omega
                      case rel => exact Lib.hid ⟨i + 1, gone, xs ++ impl r, by go_num, by omega, by omega, HGL.out, HB8.out, HG8.out, HO8.out, by rw [HE.out, HWN.out, List.append_assoc]⟩
                    | some qq =>
                      obtain ⟨n0, x0⟩ := qq
                      have hl3 := HL3.out
                      rw [hq] at hl3
                      obtain ⟨rfl, bi, hbi, hx0, rfl⟩ := hl3
                      have HQ := Lib.hid hq
                      obtain ⟨hn1, hn3, hnA, hnrow⟩ := longTo_some f row hq
                      have HNR := Lib.hid hnrow
                      have HX0' := Lib.hid hx0
                      clear hq HL3 hnrow hx0
                      have hb0 : decide ((bi : Int) < 0) = false := decide_eq_false (by omega)
                      have hn0z : (0 : Int) ≤ (n0 : Int) := by omega
                      have hncz : (n0 : Int) ≤ (ca : Int) := by omega
                      have htl : (A.take n0).length = n0 := by rw [List.length_take]; omega
                      have HR5 := Lib.hid (show Row w5 .i64 (some ⟨ga, 0, none⟩) (ofN (A.take n0)) from by rw [ofN_take]; exact (HRA.out.below HB5.out).take n0)
                      go_wp2_with (at_builtin; refine wpList_own_row rfl _ _ 55 rfl 3 .i64 8 Tryz.underlying55 info_int (by decide) w5.heap.size _ [] rfl (Own.nil _ _ _ _) (some ⟨ga, 0, none⟩) ca (ofN (A.take n0)) ?argOk HR5.out ?nocap ?lenOk (Nat.le_refl _) ?_)
                      case argOk => rw [ofN_length, htl]; rfl
                      case nocap => exact fun h => by cases h
                      case lenOk => rw [ofN_length, htl]; simp; omega
                      intro v6 w6 hown6 hgrow6
                      have HB6 := Lib.hid ((Below.refl w5.heap.size w5).grown hgrow6 (Nat.le_refl _) (fun g hg => by cases hg))
                      have HO6 := Lib.hid (show Own w6 w5.heap.size 3 .i64 v6 (ofN (A.take n0)) from by simpa using hown6)
                      clear hown6 hgrow6 HR5
                      go_upto_block 6 with fail
                      go_cut [14, 18, 19, 20, 21, 22] from 40 to 171 (fun vb vu vp vk vc vx wx => Hid (TkOut w5 T.rs f (clsL T.ls) row x0 A n0 vb vu wx))
                      case first =>
                        go_wp2_with fail
                        go_loopg [14, 18, 19, 20] A.length (fun g4 vb vu vp vk w7 => Hid (TkIn w5 T.rs f (clsL T.ls) row x0 A n0 vb vu vp vk w7 g4))
                        case atStart => exact Lib.hid ⟨x0, 0, A.take n0, n0, bi, rfl, rfl, by omega, ⟨hbi, HX0'.out, rfl, Tk.start (fun k x h => (row_some (HROWL.out.symm ▸ h)).2) HQ.out, HB6.out, HO6.out⟩⟩
                        case round =>
                          clear HB6 HO6
                          have hrel' := hrel.out
                          clear hrel
                          obtain ⟨best, passed, used, k, b', rfl, rfl, hgk4, ⟨hb', hix', rfl, htk, hb7, hown7⟩⟩ := hrel'
                          have HTKr := Lib.hid htk
                          have hkA := htk.hi
                          have hul := htk.len
                          have hs7 := hb7.size
                          have HW7 := Lib.hid (HW5.out.trans (hb7.mono hs5'))
                          have HB7 := Lib.hid hb7
                          have HIX' := Lib.hid hix'
                          clear htk hb7 hix'
                          by_cases hltk' : k < A.length
                          · have hkz : (k : Int) < (A.length : Int) := by omega
                            obtain ⟨pu, cu, rfl, hcu, hru⟩ := Own.row hown7
                            rw [ofN_length] at hown7 hcu ⊢
                            have HO7 := Lib.hid hown7
                            have HRU := Lib.hid hru
                            clear hown7 hru
                            obtain ⟨b9, o9, hp9, hbW9, cA⟩ := row_cell HRA.out (HB5.out.trans (HB7.out.mono hs5)) (show k < (ofN A).length by rw [ofN_length]; exact hltk')
                            injection hp9 with hp9
                            injection hp9 with e1 e2 _
                            subst e1
                            subst e2
                            rw [ofN_getD hltk', Nat.zero_add] at cA
                            have hav := HAlt.out A[k] (List.getElem_mem hltk')
                            obtain ⟨a, ha⟩ : ∃ a, A[k] = a := ⟨_, rfl⟩
                            rw [ha] at cA hav
                            obtain ⟨b2, o2, rfl, hb2W, cr⟩ := row_cell HR2.out HW7.out hav
                            rw [show ns.getD a 0 = f a from congrFun HF.out a] at cr
                            obtain ⟨r, hr⟩ : ∃ r, f a = r := ⟨_, rfl⟩
                            rw [hr] at cr
                            have HAK := Lib.hid (show f A[k] = r by rw [ha, hr])
                            have HA0 := Lib.hid ha
                            clear ha hr
                            have hs27 := HW7.out.size
                            have haz : (a : Int) < (ns.length : Int) := by omega
                            have hgaw7 : ga < wr.heap.size := by omega
                            have hb27 : b2 < wr.heap.size := by omega
                            have HX7 := Lib.hid (HX2.out.below HW7.out)
                            have hx7 := HX7.out.lt
                            obtain ⟨_, t0, t1, t2, t3⟩ := HX7.out
                            have HX := Lib.hid (fun pw : BelowOf wr => Calls.below_of pw ((HCL.out r pw.w' (HW7.out.trans (pw.h.mono hs27))).mono fun e w' (h : e = .returned (.int .i64 (clsL T.ls r)) ∧ w' = pw.w') => ⟨h.1, h.2 ▸ Below.refl _ _⟩))
                            obtain ⟨cv, hcv⟩ : ∃ cv, clsL T.ls r = cv := ⟨_, rfl⟩
                            rw [hcv] at HX
                            have HCV := Lib.hid hcv
                            clear hcv
                            have f1 := fun pw : BelowOf wr => pw.cell (a := ⟨W.heap.size, 0, none⟩) hx7 t0
                            have f2 := fun pw : BelowOf wr => pw.cell (a := ⟨ga, k, none⟩) hgaw7 cA
                            have f3 := fun pw : BelowOf wr => pw.cell (a := ⟨b2, o2 + a, none⟩) hb27 cr
                            have mx := mixedL
                            go_wp2_with fail
                            refine wp_region_quiet_below (by assumption) (by kernel_rfl) ?_
                            repeat (go_big_quiet_step (first | (go_at_call 41; with_reducible exact HX.out _)))
                            refine wpQuiet_nil ?_
                            intro wq hw'
                            obtain ⟨⟨wz, hbq⟩, hw''⟩ := hw'
                            obtain rfl : wq = wz := hw''
                            have HBq := Lib.hid hbq
                            have hsq := hbq.size
                            clear f1 f2 f3 HX
                            by_cases hc0 : cv = 0
                            · have hcb : ((cv : Int) == 0) = true := by simp [hc0]
                              have HC0 := Lib.hid (show clsL T.ls (f A[k]) = 0 by rw [HAK.out, HCV.out, hc0])
                              clear hc0
                              go_wp2_with fail
                              go_meet
                              exact Lib.hid ⟨best, passed, used, k, b', ⟨hb', HIX'.out, rfl, HTKr.out, HB7.out.trans (HBq.out.mono hs7), by
                                have := own_below HO7.out HBq.out
                                exact this⟩, Or.inr ⟨hltk', HC0.out⟩⟩
                            · have hcb : ((cv : Int) == 0) = false := by simp [hc0]
                              have HC0 := Lib.hid (show clsL T.ls (f A[k]) ≠ 0 by rw [HAK.out, HCV.out]; exact hc0)
                              clear hc0
                              by_cases hcp : cv ≤ passed
                              · have hcpb : decide (cv ≤ passed) = true := decide_eq_true hcp
                                have HCP := Lib.hid (show clsL T.ls (f A[k]) ≤ passed by rw [HAK.out, HCV.out]; exact hcp)
                                go_wp2_with fail
                                go_roundg (A.length - (k + 1))
                                case measure => omega
                                case rel => exact Lib.hid ⟨best, passed, used, k + 1, b', rfl, by go_num, by omega, ⟨hb', HIX'.out, rfl, HTKr.out.skip (HAeq.out ▸ liveF_srt gone i ns.length) hltk' HC0.out HCP.out, HB7.out.trans (HBq.out.mono hs7), own_below HO7.out HBq.out⟩⟩
                              · have hcpb : decide (cv ≤ passed) = false := decide_eq_false hcp
                                have HCP := Lib.hid (show ¬ clsL T.ls (f A[k]) ≤ passed by rw [HAK.out, HCV.out]; exact hcp)
                                clear hcp
                                have HWq := Lib.hid (HW7.out.trans (HBq.out.mono hs27))
                                have htkf := HTKr.out.of
                                have HTKu := Lib.hid (fun w (hb : Below wq.heap.size wq w) => HTK.out used pu cu w (HWq.out.trans (hb.mono HWq.out.size)) ((HRU.out.below HBq.out).below hb) (fun u hu => HAlt.out u (List.mem_of_mem_take (HTKr.out.sub u hu))) (by omega))
                                rw [htkf] at HTKu
                                clear htkf
                                have hml : best.of.length ≤ 3000 := by rw [← HTKr.out.of, List.length_map]; omega
                                have HRWu := Lib.hid (fun qa d w (hb : Below wq.heap.size wq w) hr => HRW.out (best.of ++ [r]) qa d w (HWq.out.trans (hb.mono HWq.out.size)) hr (by simp; omega))
                                obtain ⟨ix, hix⟩ : ∃ ix, rowIx T.rs (best.of ++ [r]) = ix := ⟨_, rfl⟩
                                rw [hix] at HRWu
                                have HIX2 := Lib.hid hix
                                clear hix
                                obtain ⟨mu, hmu⟩ : ∃ mu, best.of = mu := ⟨_, rfl⟩
                                rw [hmu] at HTKu HRWu hml HIX2
                                have HMU := Lib.hid hmu
                                clear hmu
                                have t0' := cellB HBq.out t0 hx7
                                have t1' := cellB HBq.out t1 hx7
                                have t2' := cellB HBq.out t2 hx7
                                have t3' := cellB HBq.out t3 hx7
                                have cA' := cellB HBq.out cA hgaw7
                                have cr' := cellB HBq.out cr hb27
                                have hxq : W.heap.size < wq.heap.size := by omega
                                have hgaq : ga < wq.heap.size := by omega
                                have hb2q : b2 < wq.heap.size := by omega
                                clear t0 t1 t2 t3 cA cr
                                have hmx : mx = mx := rfl
                                clear hmx
                                have HBd := Lib.hid ((Below.refl wq.heap.size wq).drew)
                                have HBa := Lib.hid (((Below.refl wq.heap.size wq).alloc (Nat.le_refl _) (.cells #[.int .i32 r] 21)).drew)
                                go_upto_region 36 with fail
                                go_cut [22] from 106 to 151 (fun v wx => v = .int .i64 ix ∧ Hid (Below wq.heap.size wq wx))
                                case first =>
                                  go_region_held3 (fun w' => w'.cell? ⟨W.heap.size, 0, none⟩ = some (.slice T.lp T.ls.length T.lc) ∧ w'.cell? ⟨W.heap.size, 1, none⟩ = some (.slice T.rp T.rs.length T.rc) ∧ w'.cell? ⟨W.heap.size, 2, none⟩ = some (.int .i64 T.top) ∧ w'.cell? ⟨W.heap.size, 3, none⟩ = some (.bool T.sh) ∧ w'.cell? ⟨ga, k, none⟩ = some (.int .i64 (a : Int)) ∧ w'.cell? ⟨b2, o2 + a, none⟩ = some (.int .i32 r))
                                    (first | (exact hSA.out) | (exact hSB.out) | (exact hSC.out) | (exact hSD.out) | (exact hSE.out) | (exact hSF.out) | go_keep)
                                    (first
                                      | (go_at_call 39; (with_reducible refine (HTKu.out _ HBd.out).mono ?_); rintro e w6 ⟨v6, rfl, hb6, hown6⟩; have HB6 := Lib.hid (HBd.out.trans hb6); have HO6 := Lib.hid hown6; have hSA := Lib.hid (s_keep HB6.out hxq hgaq hb2q t0' t1' t2' t3' cA' cr'); have hSB := Lib.hid (s_keep (HB6.out.alloc HB6.out.size (.cells #[.int .i32 r] 21)) hxq hgaq hb2q t0' t1' t2' t3' cA' cr'); clear hb6 hown6)
                                      | (go_at_call 39; (with_reducible refine (HTKu.out _ HBa.out).mono ?_); rintro e w6 ⟨v6, rfl, hb6, hown6⟩; have HB6 := Lib.hid (HBa.out.trans (hb6.mono (by simp))); have HO6 := Lib.hid hown6; have hSA := Lib.hid (s_keep HB6.out hxq hgaq hb2q t0' t1' t2' t3' cA' cr'); have q0 : w6.cell? ⟨wq.heap.size, 0, none⟩ = some (.int .i32 r) := cellB hb6 (by simp) (by simp); clear hb6 hown6)
                                      | (refine step_own_push rfl _ _ 36 rfl 21 .i32 4 Tryz.underlying36 info_rune (by decide) wq.heap.size _ mu (by rfl) (own_lower HO6.out (by simp)) wq.heap.size 1 r (by rfl) q0 (by omega) (HB6.out.size) ?_; intro p8 n8 c8 w8 hn8 hr8 hb8; subst hn8; have HB8 := Lib.hid (HB6.out.trans hb8); have hrk := HRWu.out p8 c8 w8 HB8.out hr8; rw [List.length_append, List.length_singleton] at hrk; have HRk := Lib.hid hrk; clear hrk; have hSD := Lib.hid (s_keep HB8.out hxq hgaq hb2q t0' t1' t2' t3' cA' cr'); clear hr8 hb8)
                                      | (refine step_own_push rfl _ _ 36 rfl 21 .i32 4 Tryz.underlying36 info_rune (by decide) wq.heap.size _ mu (by rfl) (own_lower (HO6.out.alloc _) (by simp)) w6.heap.size 1 r (by rfl) (by rw [World.cell?_alloc_new]; rfl) (by omega) (by simp; have := HB6.out.size; omega) ?_; intro p8 n8 c8 w8 hn8 hr8 hb8; subst hn8; have HB8 := Lib.hid ((HB6.out.alloc HB6.out.size (.cells #[.int .i32 r] 21)).trans hb8); have hrk := HRWu.out p8 c8 w8 HB8.out hr8; rw [List.length_append, List.length_singleton] at hrk; have HRk := Lib.hid hrk; clear hrk; have hSD := Lib.hid (s_keep HB8.out hxq hgaq hb2q t0' t1' t2' t3' cA' cr'); clear hr8 hb8)
                                      | (go_at_call 38; (with_reducible refine HRk.out.mono ?_); rintro e w9 ⟨rfl, hb9⟩; have HB9 := Lib.hid (HB8.out.trans (hb9.mono HB8.out.size)); have hSE := Lib.hid (s_keep HB9.out hxq hgaq hb2q t0' t1' t2' t3' cA' cr'); clear hb9))
                                  all_goals (go_wp2_with fail; go_meet)
                                  all_goals exact ⟨rfl, HB9⟩
                                case rest =>
                                  obtain ⟨rfl, HBx⟩ := hcut
                                  have HB7x := Lib.hid ((HB7.out.trans (HBq.out.mono hs7)).trans (HBx.out.mono (by omega)))
                                  have HOx := Lib.hid (own_below (own_below HO7.out HBq.out) HBx.out)
                                  have cAx := cellB HBx.out cA' hgaq
                                  clear t0' t1' t2' t3' cA' cr' HTKu HRWu HBd HBa
                                  have hsx := HB7x.out.size
                                  have hul3 : (ofN used).length ≤ 3000 := by rw [ofN_length]; omega
                                  have HRR := Lib.hid (show (∃ i : Nat, i < T.rs.length ∧ row (best.of ++ [f A[k]]) = some T.rs[i]! ∧ ix = i) ∨ (row (best.of ++ [f A[k]]) = none ∧ ix = -1) by
                                    rw [HAK.out, HMU.out, ← HIX2.out, ← HROWL.out]
                                    exact rowIx_cases T.rs (mu ++ [r]))
                                  rcases HRR.out with ⟨b3, hb3, hrl3, rfl⟩ | ⟨hrl3, rfl⟩
                                  · have hb30 : (0 : Int) ≤ (b3 : Int) := by omega
                                    have HRL := Lib.hid hrl3
                                    clear hrl3 HRR
                                    go_wp2_with (at_builtin; refine wpList_own_push rfl _ _ 55 rfl 3 .i64 8 Tryz.underlying55 info_int (by decide) w5.heap.size _ _ rfl (HOx.out.alloc _) wc.heap.size 1 1 [(a : Int)] rfl rfl ?newCells2 ?lenOk2 ?below2 ?_)
                                    all_goals (try (first | exact oneI _ _ _ _ | omega | (simp only [World.size_alloc]; omega)))
                                    intro v10 w10 hown10 hgrow10
                                    have HB10 := Lib.hid ((HB7x.out.alloc hsx _).grown hgrow10 (by simp; omega) (fun g hg => HOx.out.lt g hg))
                                    have HO10 := Lib.hid hown10
                                    clear hown10 hgrow10
                                    go_wp2_with fail
                                    go_roundg (A.length - (k + 1))
                                    case measure => omega
                                    case rel => exact Lib.hid ⟨T.rs[b3]!, passed, used ++ [A[k]], k + 1, b3, rfl, by go_num, by omega, ⟨hb3, rfl, rfl, HTKr.out.take (HAeq.out ▸ liveF_srt gone i ns.length) (fun k x h => (row_some (HROWL.out.symm ▸ h)).2) hltk' HC0.out (by have := HCP.out; omega) HRL.out, HB10.out, by
                                      rw [ofN_snoc, HA0.out]; exact HO10.out⟩⟩
                                  · have HRL := Lib.hid hrl3
                                    clear hrl3 HRR
                                    go_wp2_with fail
                                    go_roundg (A.length - (k + 1))
                                    case measure => omega
                                    case rel => exact Lib.hid ⟨best, cv, used, k + 1, b', rfl, by go_num, by omega, ⟨hb', HIX'.out, rfl, by
                                      have h := HTKr.out.none (HAeq.out ▸ liveF_srt gone i ns.length) hltk' HC0.out (by have := HCP.out; omega) HRL.out
                                      rw [HAK.out, HCV.out] at h
                                      exact h, HB7x.out, HOx.out⟩⟩
                          · obtain rfl : k = A.length := by omega
                            have hkz : ¬ (A.length : Int) < (A.length : Int) := by omega
                            have HO7 := Lib.hid hown7
                            clear hown7
                            go_wp2_with fail
                            go_meet
                            exact Lib.hid ⟨best, passed, used, A.length, b', ⟨hb', HIX'.out, rfl, HTKr.out, HB7.out, HO7.out⟩, Or.inl rfl⟩
                      case rest =>
                        obtain ⟨best, passed, used, k, b', ⟨hb', hix', rfl, htk, hb7, hown7⟩, hstop⟩ := hcut.out
                        have HWW := Lib.hid (show weighG f (clsL T.ls) row (liveF gone i ns.length) = best.to ++ weighG f (clsL T.ls) row (liveF (marks gone used) (i + 1) ns.length) by
                          have hA := HAeq.out
                          subst hA
                          exact Tk.weighs HGL.out hlt HGI.out HQ.out htk hstop)
                        have HAU := Lib.hid (show ∀ u ∈ used, u < ns.length from fun u hu => HAlt.out u (List.mem_of_mem_take (htk.sub u hu)))
                        have hul := htk.len
                        have hkA := htk.hi
                        have HW7 := Lib.hid (HW5.out.trans (hb7.mono hs5'))
                        have HBo7 := Lib.hid (HBo5.out.trans (hb7.mono HBo5.out.size))
                        have HG7 := Lib.hid (HG.out.below HBo7.out)
                        have HO7 := Lib.hid (HO.out.below HBo7.out)
                        have HIX' := Lib.hid hix'
                        obtain ⟨pu, cu, rfl, hcu, hru⟩ := Own.row hown7
                        rw [ofN_length] at hown7 hcu ⊢
                        have HU7 := Lib.hid hown7
                        clear hcut hstop htk hb7 hown7 hru hix' HQ HNR HX0' HB6 HO6
                        have hulen : used.length ≤ 3000 := by omega
                        have hgA := HG.out.lt
                        have hs25 := HW5.out.size
                        have hso5 := HBo5.out.size
                        have hxl : xs.length ≤ 12000 := by
                          have := congrArg List.length HE.out
                          rw [List.length_append] at this
                          omega
                        have hyl : xs.length + best.to.length ≤ 12000 := by
                          have := congrArg List.length HE.out
                          rw [HWW.out, List.length_append, List.length_append] at this
                          omega
                        go_wp2_with fail
                        go_loopg [23] used.length (fun g5 v w8 => Hid (MkRel w2 w5 ns.length gone xs used (.slice pu used.length cu) u9 v w8 g5))
                        case atStart => exact Lib.hid ⟨0, rfl, Nat.zero_le _, by omega, HW7.out, HG7.out, HO7.out, HU7.out⟩
                        case round =>
                          have hrel' := hrel.out
                          clear hrel
                          obtain ⟨j, rfl, hj, hgk5, hb8, hg8, ho8, hu8⟩ := hrel'
                          have HB8 := Lib.hid hb8
                          have HG8 := Lib.hid hg8
                          have HO8 := Lib.hid ho8
                          have HU8 := Lib.hid hu8
                          have hs8 := hb8.size
                          clear hb8
                          by_cases hju : j < used.length
                          · have hjuz : (j : Int) < (used.length : Int) := by omega
                            have hru8 : Row wr .i64 pu (ofN used) := by
                              obtain ⟨p', c', hv', _, hr'⟩ := Own.row hu8
                              injection hv' with hp' _ _
                              rw [hp']; exact hr'
                            obtain ⟨b9, o9, rfl, hbW9, cU⟩ := row_cell hru8 (Below.refl _ _) (show j < (ofN used).length by rw [ofN_length]; exact hju)
                            rw [ofN_getD hju] at cU
                            have huv := HAU.out used[j] (List.getElem_mem hju)
                            have HTS := Lib.hid (show used.take (j + 1) = used.take j ++ [used[j]] from List.take_succ_eq_append_getElem hju)
                            obtain ⟨u, hu⟩ : ∃ u, used[j] = u := ⟨_, rfl⟩
                            rw [hu] at cU huv HTS
                            clear hu hru8
                            have hml8 : (marks gone (used.take j)).length = ns.length := by rw [marks_length]; exact HGL.out
                            have cG := hg8.cell (j := u) (by omega)
                            have fG := hg8.froz u
                            have huz : (u : Int) < (ns.length : Int) := by omega
                            have hu0 : (0 : Int) ≤ (u : Int) := by omega
                            obtain ⟨bg, hbg⟩ : ∃ bg, (marks gone (used.take j)).getD u false = bg := ⟨_, rfl⟩
                            rw [hbg] at cG
                            clear hg8 ho8 hu8 hml8 hbg
                            go_wp2_with fail
                            go_roundg (used.length - (j + 1))
                            case measure => omega
                            case rel => exact Lib.hid ⟨j + 1, by go_num, by omega, by omega, HB8.out.setCell (p := ⟨w2.heap.size, u, none⟩) (Nat.le_refl _) _, by
                              rw [HTS.out, marks_snoc]; exact HG8.out.set u true, ownsRow_setCell_below HO8.out (Nat.lt_succ_self _) _, ownsRow_setCell_below HU8.out (show w2.heap.size < w5.heap.size by omega) _⟩
                          · obtain rfl : j = used.length := by omega
                            have hjuz : ¬ (used.length : Int) < (used.length : Int) := by omega
                            have HX8 := Lib.hid (HX2.out.below HB8.out)
                            have hWW8 := Lib.hid (HB2.out.trans (HB8.out.mono hs2))
                            have hb'z : (b' : Int) < (T.rs.length : Int) := by omega
                            obtain ⟨b9, o9, hrp, hbW9, _, cT, hra⟩ := HT.out.rows.at_ hWW8.out hb'
                            rw [HIX'.out] at cT hra
                            have HRA9 := Lib.hid hra
                            obtain ⟨_, t0, t1, t2, t3⟩ := HX8.out
                            have HRP := Lib.hid hrp
                            rw [hrp] at t1
                            clear hg8 ho8 hu8 hra t0 t2 t3 hrp
                            go_wp2_with (at_builtin; refine wpList_ownE_row rfl _ _ rfl (w2.heap.size + 1) _ xs rfl HO8.out best.tp best.tc best.to rfl HRA9.out.2.1 HRA9.out.2.2.2 ?lenOk9 ?below9 ?_)
                            case lenOk9 => omega
                            case below9 => have := HB8.out.size; have := HG8.out.lt; omega
                            intro v9 w9 hown9 hgrow9
                            have HO9 := Lib.hid hown9
                            have HBg9 := Lib.hid ((Below.refl (w2.heap.size + 1) wr).grown hgrow9 (by have := HG8.out.lt; omega) (fun g hg => HO8.out.lt g hg))
                            clear hown9 hgrow9 t1 cT
                            have HB9 := Lib.hid (HB8.out.trans (HBg9.out.mono (Nat.le_succ _)))
                            have HG9 := Lib.hid (HG8.out.kept HBg9.out (Nat.lt_succ_self _))
                            go_wp2_with fail
                            go_roundg (ns.length - (i + 1))
                            case measure => omega
                            case rel => exact Lib.hid ⟨i + 1, marks gone used, xs ++ best.to, by go_num, by omega, by omega, by rw [marks_length]; exact HGL.out, HB9.out, by
                              have := HG9.out
                              rwa [List.take_length] at this, HO9.out, by rw [HE.out, HWW.out, List.append_assoc]⟩
        · obtain rfl : i = ns.length := by omega
          have hltz : ¬ (ns.length : Int) < (ns.length : Int) := by omega
          go_wp2_with fail
          go_ret2
          refine ⟨HB2.out.trans (HB.out.mono hs2), Or.inr (Or.inr ⟨HMW.out, HV.out, u9, rfl, ?_⟩)⟩
          have he : res = xs := by rw [HE.out, liveF_end, weigh_nil, List.append_nil]
          rw [HRES.out, he]
          exact HO.out.lower (by omega)
end Go.Proofs.YticjgmhgpeihjaaGreatDoor
namespace Go.Proofs.YticjgmhgpeihjaaGreatDoor
open Go.RowKit Go.Gz Go.Sort

theorem refElements_both (T : TB) (s : List Int) (q : Option Addr) (c : Nat) (W : World) (hT : TabIn W T) (hl1 : T.ls.length ≤ 100) (hl2 : T.rs.length ≤ 100) (hs : Row W .i32 q s) (hz : s.length ≤ 1000) :
    Calls Tryz.prog 21 #[.agg #[.slice T.lp T.ls.length T.lc, .slice T.rp T.rs.length T.rc, .int .i64 T.top, .bool T.sh], .slice q s.length c] W (RetBoth T s W) := by
  refine (refElements_is T s q c W hT hl1 hl2 hs hz).mono fun e w' h => ?_
  obtain ⟨hb, ⟨hm, rfl⟩ | ⟨hm, hv, rfl⟩ | ⟨hm, hv, v, rfl, hown⟩⟩ := h
  · exact ⟨none, 0, by simp [outE, errE, hm], hb, Or.inl (by simp [outE, hm])⟩
  · exact ⟨none, 0, by simp only [outE, errE, hm, hv]; rfl, hb, Or.inl (by simp only [outE, hm, hv]; rfl)⟩
  · obtain ⟨p, k, rfl, _, _, hels⟩ := OwnE.row hown
    have e1 : outE T s = elemL T.ls T.rs s := by simp only [outE, hm, hv]; rfl
    have e2 : errE T s = 0 := by simp only [errE, hm, hv]; rfl
    exact ⟨p, k, by rw [e1, e2], hb, by rw [e1]; exact hels⟩
end Go.Proofs.YticjgmhgpeihjaaGreatDoor
namespace Go.Proofs.YticjgmhgpeihjaaGreatDoor
open Go.RowKit Go.Gz Go.Sort

theorem find_none {ls : List LR} {z : Int} (h : ∀ x ∈ ls, x.r ≠ z) : ls.find? (fun x => decide (x.r = z)) = none := by
  rw [List.find?_eq_none]
  intro x hx
  simpa using h x hx
theorem cls_none {ls : List LR} {z : Int} (h : ∀ x ∈ ls, x.r ≠ z) : clsL ls z = 0 := by
  unfold clsL findL
  rw [find_none h]; rfl
theorem to_none {ls : List LR} {z : Int} (h : ∀ x ∈ ls, x.r ≠ z) : toL ls z = [] := by
  unfold toL findL
  rw [find_none h]; rfl
theorem rowL_none {rs : List WR} {z : Int} (h : ∀ x ∈ rs, z ∉ x.of) (k : List Int) (hk : z ∈ k) : rowL rs k = none := by
  cases hr : rowL rs k with
  | none => rfl
  | some x =>
    obtain ⟨hx, rfl⟩ := row_some hr
    exact absurd hk (h x hx)
theorem apart_part {ls : List LR} {z : Int} (h : ∀ x ∈ ls, x.r ≠ z) (a b : List Int) : apartL ls (a ++ z :: b) = apartL ls a ++ z :: apartL ls b := by
  rw [apart_append]
  have h1 : ap1 ls z = [z] := by unfold ap1; rw [to_none h]; rfl
  have h2 : apartL ls (z :: b) = ap1 ls z ++ apartL ls b := by simp [apartL]
  rw [h2, h1]; rfl
theorem normal_part {ls : List LR} {z : Int} (h : ∀ x ∈ ls, x.r ≠ z) (a b : List Int) : normalL ls (a ++ z :: b) = normalL ls a ++ z :: normalL ls b := by
  unfold normalL
  rw [apart_part h, order_part (by rw [cls_none h]; exact Int.le_refl _)]
theorem elem_part {ls : List LR} {rs : List WR} {z : Int} (h : ∀ x ∈ ls, x.r ≠ z) (hr : ∀ x ∈ rs, z ∉ x.of) (a b : List Int) : elemL ls rs (a ++ z :: b) = elemL ls rs a ++ (impl z ++ elemL ls rs b) := by
  unfold elemL
  rw [normal_part h]
  exact weigh_part (rowL_none hr) (cls_none h) _ _ _ (Nat.le_refl _)
theorem any_part {z : Int} (hz : mayNotB z = false) (a b : List Int) : (a ++ z :: b).any mayNotB = (a.any mayNotB || b.any mayNotB) := by
  simp [hz]

/-- elements and an error's number, by a table that may be. -/
def RetEls (T : TB) (s : List Int) (W : World) (e : Ending) (w' : World) : Prop :=
  ∃ p n c er, e = .returned (.tuple #[.slice p n c, .int .i64 er]) ∧ Below W.heap.size W w' ∧ ((s.any mayNotB = true ∧ er = 2) ∨ (s.any mayNotB = false ∧ er = 0 ∧ n = (elemL T.ls T.rs s).length ∧ n ≤ c ∧ Els w' p (elemL T.ls T.rs s)))
theorem elements_is (T : TB) (hm : mayWB T.ls T.rs T.top = true) (s : List Int) (q : Option Addr) (c : Nat) (W : World) (hT : TableAt W T) (hs : Row W .i32 q s) (hz : s.length ≤ 60000) :
    Calls Tryz.prog 15 #[.agg #[.slice T.lp T.ls.length T.lc, .slice T.rp T.rs.length T.rc, .int .i64 T.top, .bool T.sh], .slice q s.length c] W (RetEls T s W) := by
  cases hv : s.any mayNotB with
  | true => exact (elements_text T hm s hv q c W hT hs hz).mono fun e w' h => ⟨none, 0, 0, 2, h.1, h.2, Or.inl ⟨hv, rfl⟩⟩
  | false =>
    refine (elements_ok T hm s hv q c W hT hs hz).mono fun e w' h => ?_
    obtain ⟨v, rfl, hb, hown⟩ := h
    obtain ⟨p, k, rfl, hck, _, hels⟩ := OwnE.row hown
    exact ⟨p, _, k, 0, rfl, hb, Or.inr ⟨hv, rfl, rfl, hck, hels⟩⟩

/-- append of a row of numbers onto a row of the call's own, at a step of a region that draws its order. -/
theorem step_own_row {P : Program} {w : World} {ops : Array Oper} {o : Oper} {a : Act} {K : Act → World → Prop} {Q : Exit → Act → World → Prop} {E : Prop} (hgd : o.guard = none) (s x : Operand) (t : TypeId)
    (ho : o.op = .call { callee := .builtin .append, args := #[s, x], argTypes := #[t, t] })
    (e : TypeId) (k : IntKind) (bytes : Nat) (h1 : P.underlying t = some (.slice e)) (hinfo : (P.info? e).map (fun i => (i.zero, i.size, i.bytes)) = some (some (.int k 0), 1, bytes)) (hby : bytes ≤ 8)
    (B : Nat) (v : Value) (xs : List Int) (hs : a.eval s = v) (hown : Own w B e k v xs)
    (p : Option Addr) (c : Nat) (ys : List Int) (hx : a.eval x = .slice p ys.length c) (hrow : Row w k p ys) (hpc : p = none → c = 0) (hlen : xs.length + ys.length ≤ 1000000) (hB : B ≤ w.heap.size)
    (hK : ∀ v' w', Own w' B e k v' (xs ++ ys) → w.grownBy w' v.ownBlock → Below B w w' → K (a.put o.dst v') w') :
    if Region.wanted o (yielded ops a.tmps) = true then Oper.wp P o a w K Q else E := by
  have hw : Region.wanted o (yielded ops a.tmps) = true := by simp [Region.wanted, hgd]
  rw [if_pos hw]
  obtain ⟨i0, hi, hz0, hz1, hz2⟩ := info_parts hinfo
  cases p with
  | none =>
    obtain rfl : ys = [] := by
      rcases hrow with h | ⟨b, off, hp', _⟩
      · exact h
      · cases hp'
    obtain rfl := hpc rfl
    have hrun := run_append_owned_none (P := P) (w := w) B t o.type e i0 1 h1 hi v xs.length (xs.map (Value.int k)) hown
    unfold Oper.wp
    have hx' : a.eval x = .slice none 0 0 := hx
    simp [execOp, ho, resolve, invoke, builtin, hs, hx', hrun, Result.andThen]
    exact hK v w (by rw [List.append_nil]; exact hown) (World.grownBy.refl _ _) (Below.refl _ _)
  | some ad =>
    obtain ⟨v', w', hr, h2, h3, _, _⟩ := run_append_own_at (P := P) w B t o.type e i0 (.int k 0) 1 bytes h1 hi hz0 hz1 hz2 rfl (by decide) v xs.length (xs.map (Value.int k)) hown ad ys.length c (ys.map (Value.int k)) (by simp) (by
      intro j u hj
      obtain ⟨hj', rfl⟩ := List.getElem?_eq_some_iff.1 hj
      simp only [List.length_map] at hj'
      rcases hrow with h | ⟨b, off, hp', _, hc⟩
      · rw [h] at hj'; simp at hj'
      · cases hp'
        rw [Addr.add_lit, hc j hj']
        simp [List.getD, hj']) (by
      intro u hu
      obtain ⟨y, _, rfl⟩ := List.mem_map.1 hu
      rfl) (by unfold maxLen; omega) (by
      have : (xs.length + ys.length) * bytes ≤ (xs.length + ys.length) * 8 := Nat.mul_le_mul_left _ hby
      omega) hB
    unfold Oper.wp
    simp [execOp, ho, resolve, invoke, builtin, hs, hx, hr, Result.andThen]
    refine hK v' w' ?_ h3 ((Below.refl B w).grown h3 hB fun g hg => (World.ownsRow.lt hown g hg).1)
    unfold Own
    rw [List.length_append, List.map_append]
    exact h2
theorem row_one {w : World} {G : Nat} {k : IntKind} {y : Int} (h : w.cell? ⟨G, 0, none⟩ = some (.int k y)) : Row w k (some ⟨G, 0, none⟩) [y] :=
  Or.inr ⟨G, 0, rfl, World.block_lt_of_cell? w _ h, fun j hj => by
    obtain rfl : j = 0 := by simpa using hj
    exact h⟩
theorem Els.front {w : World} {p : Option Addr} {xs ys : List EL} (h : Els w p (xs ++ ys)) : Els w p xs := by
  rcases h with h | ⟨b, off, hp, hlt, hc⟩
  · exact Or.inl (List.append_eq_nil_iff.1 h).1
  · refine Or.inr ⟨b, off, hp, hlt, fun j hj => ?_⟩
    have := hc j (by simp; omega)
    rwa [show (xs ++ ys)[j]! = xs[j]! by rw [getElem!_pos (xs ++ ys) j (by simp; omega), getElem!_pos xs j hj, List.getElem_append_left hj]] at this
theorem s_keep4 {wq w : World} {b0 : Nat} {v0 v1 v2 v3 : Value} (hb : Below wq.heap.size wq w) (h0 : b0 < wq.heap.size) (c0 : wq.cell? ⟨b0, 0, none⟩ = some v0) (c1 : wq.cell? ⟨b0, 1, none⟩ = some v1) (c2 : wq.cell? ⟨b0, 2, none⟩ = some v2) (c3 : wq.cell? ⟨b0, 3, none⟩ = some v3) :
    w.cell? ⟨b0, 0, none⟩ = some v0 ∧ w.cell? ⟨b0, 1, none⟩ = some v1 ∧ w.cell? ⟨b0, 2, none⟩ = some v2 ∧ w.cell? ⟨b0, 3, none⟩ = some v3 :=
  ⟨cellB hb c0 h0, cellB hb c1 h0, cellB hb c2 h0, cellB hb c3 h0⟩
/-- elements and an error's number, as a call left them in two variables. -/
def ZRel (T : TB) (s : List Int) (W : World) (z g : Value) (w' : World) : Prop :=
  ∃ p n c er, z = .slice p n c ∧ g = .int .i64 er ∧ Below W.heap.size W w' ∧ ((s.any mayNotB = true ∧ er = 2) ∨ (s.any mayNotB = false ∧ er = 0 ∧ n = (elemL T.ls T.rs s).length ∧ n ≤ c ∧ Els w' p (elemL T.ls T.rs s)))
end Go.Proofs.YticjgmhgpeihjaaGreatDoor
namespace Go.Proofs.YticjgmhgpeihjaaGreatDoor
open Go.RowKit Go.Gz Go.Sort

def flatW (rs : List WR) : List Value := rs.flatMap fun x => [.slice x.op x.of.length x.oc, .slice x.tp x.to.length x.tc]
theorem flatW_get : ∀ (ls : List WR) (j : Nat), j < ls.length → (flatW ls)[j * 2]? = some (.slice ls[j]!.op ls[j]!.of.length ls[j]!.oc) ∧ (flatW ls)[j * 2 + 1]? = some (.slice ls[j]!.tp ls[j]!.to.length ls[j]!.tc)
  | [], _, h => by simp at h
  | x :: t, 0, _ => ⟨rfl, rfl⟩
  | x :: t, j + 1, h => by
    have ih := flatW_get t j (by simpa using h)
    have e : flatW (x :: t) = [.slice x.op x.of.length x.oc, .slice x.tp x.to.length x.tc] ++ flatW t := by simp [flatW]
    have g : (x :: t)[j + 1]! = t[j]! := by simp
    rw [e, g, show (j + 1) * 2 = 2 + j * 2 by omega]
    refine ⟨?_, ?_⟩
    · rw [List.getElem?_append_right (by simp)]; simpa using ih.1
    · rw [List.getElem?_append_right (by simp; omega)]; rw [show 2 + j * 2 + 1 - [Value.slice x.op x.of.length x.oc, .slice x.tp x.to.length x.tc].length = j * 2 + 1 by simp; omega]; exact ih.2
theorem wrs_lit (w : World) (b : Nat) (t : TypeId) (fr : Nat × Nat) (rs : List WR) (h : w.heap[b]? = some (.cells (flatW rs).toArray t fr)) (hr : ∀ x ∈ rs, RowAt w x) : Wrs w (some ⟨b, 0, none⟩) rs := by
  refine Or.inr ⟨b, 0, rfl, (Array.getElem?_eq_some_iff.1 h).1, fun j hj => ?_⟩
  obtain ⟨h1, h2⟩ := flatW_get rs j hj
  simp only [World.cell?, h, Nat.zero_add, List.getElem?_toArray]
  exact ⟨h1, h2, hr _ (getW_mem hj)⟩
theorem row_heap (w : World) (k : IntKind) (b : Nat) (t : TypeId) (fr : Nat × Nat) (xs : List Int) (h : w.heap[b]? = some (.cells (xs.map (Value.int k)).toArray t fr)) : Row w k (some ⟨b, 0, none⟩) xs := by
  refine Or.inr ⟨b, 0, rfl, (Array.getElem?_eq_some_iff.1 h).1, fun j hj => ?_⟩
  simp only [World.cell?, h, Nat.zero_add]
  simp [List.getD, hj]

theorem build_row (p q : Option Addr) (n k m l : Nat) (w : World) : (Instr.build 47 #[(0, .slice p n k), (1, .slice q m l)]).run Tryz.prog w = .ok (.agg #[.slice p n k, .slice q m l]) w := by kernel_rfl
theorem build_tab1 (q : Option Addr) (m l : Nat) (w : World) : (Instr.build 25 #[(1, .slice q m l)]).run Tryz.prog w = .ok (.agg #[.slice none 0 0, .slice q m l, .int .i64 0, .bool false]) w := by kernel_rfl

end Go.Proofs.YticjgmhgpeihjaaGreatDoor
namespace Go.Proofs.YticjgmhgpeihjaaGreatDoor
open Go.RowKit Go.Gz Go.Sort

def FewPost (ls : List LR) (rs : List WR) (s : List Int) (W : World) (e : Ending) (w' : World) : Prop := ∃ bv : Bool, e = .returned (.bool bv) ∧ (bv = true → ls.length ≤ 100 ∧ rs.length ≤ 100 ∧ s.length ≤ 200) ∧ Below W.heap.size W w'

set_option maxHeartbeats 4000000 in
set_option maxRecDepth 100000 in
theorem few_any (lp : Option Addr) (ls : List LR) (lc : Nat) (rp : Option Addr) (rs : List WR) (rc : Nat) (top : Int) (sh : Bool) (s : List Int) (q : Option Addr) (c : Nat) (W : World) (hlo : Lores W lp ls) (hro : Wrs W rp rs) (hsz : ls.length ≤ 9223372036854775807) (hrz : rs.length ≤ 9223372036854775807) (hxs : ∀ x ∈ ls, x.to.length ≤ 9223372036854775807) (hof : ∀ x ∈ rs, x.of.length ≤ 9223372036854775807 ∧ x.to.length ≤ 9223372036854775807) (hz : s.length ≤ 9223372036854775807) :
    Calls Tryz.prog 6 #[.agg #[.slice lp ls.length lc, .slice rp rs.length rc, .int .i64 top, .bool sh], .slice q s.length c] W (FewPost ls rs s W) := by
  have HLO := Lib.hid hlo; clear hlo
  have HRO := Lib.hid hro; clear hro
  have HXS := Lib.hid hxs; clear hxs
  have HOF := Lib.hid hof; clear hof
  go_enter Tryz.func6, Tryz.ntmps6
  go_wp2_with fail
  obtain ⟨w0, hw0⟩ : ∃ w0, W.alloc (.cells #[.slice lp ls.length lc, .slice rp rs.length rc, .int .i64 top, .bool sh] 25) = w0 := ⟨_, rfl⟩
  rw [hw0]
  have hb0 := Lib.hid (show Below W.heap.size W w0 from hw0 ▸ (Below.refl _ _).alloc (Nat.le_refl _) _)
  have hs0 : W.heap.size < w0.heap.size := by rw [← hw0]; simp
  have T0 := Lib.hid (show w0.cell? ⟨W.heap.size, 0, none⟩ = some (.slice lp ls.length lc) by rw [← hw0]; simp)
  have T1 := Lib.hid (show w0.cell? ⟨W.heap.size, 1, none⟩ = some (.slice rp rs.length rc) by rw [← hw0]; simp)
  clear hw0
  go_loopg [5, 6] rs.length (fun g vn vi wr => ∃ (k : Nat) (z : Int), vn = .int .i64 z ∧ vi = .int .i64 k ∧ k ≤ rs.length ∧ rs.length - k ≤ g ∧ Hid (Below w0.heap.size w0 wr))
  case atStart => exact ⟨0, 0, rfl, rfl, Nat.zero_le _, by omega, Lib.hid (Below.refl _ _)⟩
  case round =>
    obtain ⟨k, z, rfl, rfl, hk, hg, HB⟩ := hrel
    have t1 := cellB HB.out T1.out hs0
    have t0 := cellB HB.out T0.out hs0
    have HW := Lib.hid (hb0.out.trans (HB.out.mono (Nat.le_of_lt hs0)))
    by_cases hlt : k < rs.length
    · have hltz : (k : Int) < (rs.length : Int) := by omega
      obtain ⟨b, off, rfl, hbW, c1, c2, _⟩ := HRO.out.at_ HW.out hlt
      obtain ⟨hf1, hf2⟩ := HOF.out _ (getW_mem hlt)
      generalize rs[k]! = x at c1 c2 hf1 hf2
      clear t0
      go_wp2_with fail
      go_quiet (fail)
      go_wp2_with fail
      go_roundg (rs.length - (k + 1))
      case measure => omega
      case rel => exact ⟨k + 1, _, rfl, by go_num, by omega, by omega, Lib.hid (below_drewN HB.out _)⟩
    · obtain rfl : k = rs.length := by omega
      have hltz : ¬ (rs.length : Int) < (rs.length : Int) := by omega
      go_wp2_with fail
      obtain ⟨w1, rfl⟩ : ∃ w1, w1 = wr := ⟨_, rfl⟩
      go_loopg [5, 7] ls.length (fun g vn vi w2 => ∃ (k : Nat) (z : Int), vn = .int .i64 z ∧ vi = .int .i64 k ∧ k ≤ ls.length ∧ ls.length - k ≤ g ∧ w2 = w1)
      case atStart => exact ⟨0, z, rfl, rfl, Nat.zero_le _, by omega, rfl⟩
      case round =>
        obtain ⟨k, z, rfl, rfl, hk, hg2, hw⟩ := hrel
        obtain rfl := hw
        by_cases hlt : k < ls.length
        · have hltz : (k : Int) < (ls.length : Int) := by omega
          obtain ⟨b, off, rfl, hbW, c1, c2, c3, _⟩ := HLO.out.at_ HW.out hlt
          have hf1 := HXS.out _ (get_mem hlt)
          generalize ls[k]! = x at c1 c2 c3 hf1
          go_wp2_with fail
          go_roundg (ls.length - (k + 1))
          case measure => omega
          case rel => exact ⟨k + 1, _, rfl, by go_num, by omega, by omega, rfl⟩
        · obtain rfl : k = ls.length := by omega
          have hltz : ¬ (ls.length : Int) < (ls.length : Int) := by omega
          by_cases h1 : rs.length ≤ 100
          · have h1z : decide ((rs.length : Int) ≤ 100) = true := decide_eq_true (by omega)
            by_cases h2 : ls.length ≤ 100
            · have h2z : decide ((ls.length : Int) ≤ 100) = true := decide_eq_true (by omega)
              by_cases h3 : z ≤ 1000
              · by_cases h4 : s.length ≤ 200
                · have h4z : (s.length : Int) ≤ 200 := by omega
                  have H := Lib.hid (show ls.length ≤ 100 ∧ rs.length ≤ 100 ∧ s.length ≤ 200 from ⟨h2, h1, h4⟩)
                  clear h1 h2 h4
                  go_wp2_with fail
                  go_ret
                  exact ⟨true, rfl, fun _ => H.out, HW.out⟩
                · have h4z : decide ((s.length : Int) ≤ 200) = false := decide_eq_false (by omega)
                  clear h4
                  go_wp2_with fail
                  go_ret
                  exact ⟨false, rfl, (fun h => by cases h), HW.out⟩
              · have h3z : decide (z ≤ 1000) = false := decide_eq_false h3
                clear h3
                go_wp2_with fail
                go_ret
                exact ⟨false, rfl, (fun h => by cases h), HW.out⟩
            · have h2z : decide ((ls.length : Int) ≤ 100) = false := decide_eq_false (by omega)
              clear h2
              go_wp2_with fail
              go_ret
              exact ⟨false, rfl, (fun h => by cases h), HW.out⟩
          · have h1z : decide ((rs.length : Int) ≤ 100) = false := decide_eq_false (by omega)
            clear h1
            go_wp2_with fail
            go_ret
            exact ⟨false, rfl, (fun h => by cases h), HW.out⟩
end Go.Proofs.YticjgmhgpeihjaaGreatDoor
