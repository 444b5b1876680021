/-
  Several texts in one: WeBox, WeTake, WeRefT, WePart, WeFew.
-/
import Derived.Test.YtnbdekmmailjmaaWeArgs
import Derived.Test.YtnbdekmmailjmaaWeRefB
import Derived.Test.YtnbdekmmailjmaaWeMath
import Derived.Deep.AppendLies
import Derived.Maps.AppendAt
import Derived.Laws.AppendOwnNone
import Derived.Test.YtnbdekmmailjmaaWeRef7
namespace Go.Proofs.Ytnbdekmmailjmaa
open Go.RowKit Go.Gz Go.Sort

theorem own_slice {w : World} {B : Nat} {v : Value} {xs : List Int} (h : Own w B 21 .i32 v xs) : ∃ q c, v = .slice q xs.length c ∧ (q = none → c = 0) ∧ Row w .i32 q xs := by
  have h' := h
  obtain ⟨_, ⟨rfl, h0⟩ | ⟨g, cap', cur, rfl, _⟩⟩ := h
  · have h00 : xs = [] := List.eq_nil_of_length_eq_zero h0
    exact ⟨none, 0, by rw [h00]; rfl, fun _ => rfl, Or.inl h00⟩
  · obtain ⟨p', c', hv, _, hr⟩ := Own.row h'
    injection hv with hp hn hcc
    exact ⟨some ⟨g, 0, none⟩, cap', by rw [hn], (fun h => by cases h), by rw [hp]; exact hr⟩
/-- a table's box. -/
structure BoxAt (w : World) (B : Nat) (T : TB) : Prop where
  lt : B < w.heap.size
  t0 : w.cell? ⟨B, 0, none⟩ = some (.slice T.lp T.ls.length T.lc)
  t1 : w.cell? ⟨B, 1, none⟩ = some (.slice T.rp T.rs.length T.rc)
  t2 : w.cell? ⟨B, 2, none⟩ = some (.int .i64 T.top)
  t3 : w.cell? ⟨B, 3, none⟩ = some (.bool T.sh)
theorem BoxAt.below {w w' : World} {B : Nat} {T : TB} (h : BoxAt w B T) (hb : Below w.heap.size w w') : BoxAt w' B T :=
  ⟨Nat.lt_of_lt_of_le h.lt hb.size, cellB hb h.t0 h.lt, cellB hb h.t1 h.lt, cellB hb h.t2 h.lt, cellB hb h.t3 h.lt⟩
theorem BoxAt.new (W : World) (T : TB) (t : TypeId) : BoxAt (W.alloc (.cells #[.slice T.lp T.ls.length T.lc, .slice T.rp T.rs.length T.rc, .int .i64 T.top, .bool T.sh] t)) W.heap.size T :=
  ⟨by simp, by simp, by simp, by simp, by simp⟩
theorem TabIn.at_ {W w : World} {T : TB} (h : TabIn W T) (hb : Below W.heap.size W w) (h1 : T.ls.length ≤ 100) (h2 : T.rs.length ≤ 100) : TableAt w T :=
  ⟨h.lore.below hb, h.rows.below hb, by omega, by omega, h.by_⟩

/-- rows of at most four elements: what a text of so many runes weighs has at most four times as many. -/
theorem lengthen_few {α : Type} {f : α → Int} {cls : Int → Int} {row : List Int → Option WR} (hr : ∀ k x, row k = some x → x.to.length ≤ 4) : ∀ (l : List α) (best : WR) (passed : Int), best.to.length ≤ 4 → (lengthenG f cls row best passed l).1.to.length ≤ 4
  | [], best, passed, h => by simpa [lengthenG] using h
  | r :: t, best, passed, h => by
    unfold lengthenG
    split
    · exact h
    · split
      · exact lengthen_few hr t best passed h
      · split
        · rename_i x hx
          exact lengthen_few hr t x passed (hr _ x hx)
        · exact lengthen_few hr t best _ h
theorem weighF_few {α : Type} {f : α → Int} {cls : Int → Int} {row : List Int → Option WR} (hr : ∀ k x, row k = some x → x.to.length ≤ 4) : ∀ (n : Nat) (l : List α), (weighF f cls row n l).length ≤ 4 * n
  | 0, _ => by simp [weighF]
  | _ + 1, [] => by simp [weighF]
  | n + 1, r :: t => by
    unfold weighF
    split
    · have := weighF_few (f := f) (cls := cls) hr n t
      simp [impl]; omega
    · rename_i k x hk
      have h1 := lengthen_few (f := f) (cls := cls) hr ((r :: t).drop k) x 0 (hr _ x (longTo_some f row hk).2.2.2)
      have h2 := weighF_few (f := f) (cls := cls) hr n (lengthenG f cls row x 0 ((r :: t).drop k)).2
      simp only [List.length_append]; omega
theorem elem_few {ls : List LR} {rs : List WR} {top : Int} (h : mayWB ls rs top = true) (s : List Int) : (elemL ls rs s).length ≤ 4 * (normalL ls s).length :=
  weighF_few (fun _ x hx => (mayRow_of (mayW_row h x (row_some hx).1)).2.2.1) _ _

end Go.Proofs.Ytnbdekmmailjmaa
namespace Go.Gz
open Go.RowKit

/-- the places from i on that are not gone. -/
def liveF (gone : List Bool) (i n : Nat) : List Nat := (List.range' i (n - i)).filter fun k => !gone.getD k false
theorem liveF_end (gone : List Bool) (n : Nat) : liveF gone n n = [] := by simp [liveF]
theorem liveF_all (n : Nat) : liveF (List.replicate n false) 0 n = List.range n := by
  unfold liveF
  rw [Nat.sub_zero, List.range_eq_range', List.filter_eq_self]
  intro k hk
  have := List.mem_range'_1.1 hk
  simp [List.getD, List.getElem?_replicate]
  split <;> rfl
theorem liveF_gone {gone : List Bool} {i n : Nat} (hi : i < n) (h : gone.getD i false = true) : liveF gone i n = liveF gone (i + 1) n := by
  unfold liveF
  rw [show n - i = (n - (i + 1)) + 1 by omega, List.range'_succ, List.filter_cons, h]
  rfl
theorem liveF_live {gone : List Bool} {i n : Nat} (hi : i < n) (h : gone.getD i false = false) : liveF gone i n = i :: liveF gone (i + 1) n := by
  unfold liveF
  rw [show n - i = (n - (i + 1)) + 1 by omega, List.range'_succ, List.filter_cons, h]
  rfl
theorem liveF_mem {gone : List Bool} {i n x : Nat} (h : x ∈ liveF gone i n) : i ≤ x ∧ x < n := by
  unfold liveF at h
  have := List.mem_range'_1.1 (List.mem_filter.1 h).1
  omega
theorem liveF_srt (gone : List Bool) (i n : Nat) : (liveF gone i n).Pairwise (· < ·) := List.Pairwise.filter _ List.pairwise_lt_range'
theorem liveF_length (gone : List Bool) (i n : Nat) : (liveF gone i n).length ≤ n - i := by
  unfold liveF
  have := List.length_filter_le (fun k => !gone.getD k false) (List.range' i (n - i))
  simpa using this
/-- the live places between i and k. -/
theorem liveF_snoc {gone : List Bool} {i k : Nat} (hi : i ≤ k) : liveF gone i (k + 1) = if gone.getD k false then liveF gone i k else liveF gone i k ++ [k] := by
  unfold liveF
  rw [show k + 1 - i = (k - i) + 1 by omega, List.range'_concat, List.filter_append, Nat.one_mul, show i + (k - i) = k by omega]
  cases h : gone.getD k false with
  | false => simp only [List.filter_cons, List.filter_nil, h]; rfl
  | true => simp only [List.filter_cons, List.filter_nil, h]; exact List.append_nil _
def marks (gone : List Bool) (U : List Nat) : List Bool := U.foldl (fun g u => g.set u true) gone
theorem marks_snoc (gone : List Bool) (U : List Nat) (u : Nat) : marks gone (U ++ [u]) = (marks gone U).set u true := by simp [marks]
theorem marks_length : ∀ (U : List Nat) (gone : List Bool), (marks gone U).length = gone.length
  | [], _ => rfl
  | u :: U, gone => by
    show (marks (gone.set u true) U).length = _
    rw [marks_length U]; simp
theorem marks_getD : ∀ (U : List Nat) (gone : List Bool) (k : Nat), k < gone.length → (marks gone U).getD k false = (gone.getD k false || decide (k ∈ U))
  | [], gone, k, _ => by simp [marks]
  | u :: U, gone, k, hk => by
    show (marks (gone.set u true) U).getD k false = _
    rw [marks_getD U _ k (by simpa using hk)]
    by_cases h : k = u
    · subst h
      simp [List.getD, hk]
    · have h' : ¬ u = k := fun e => h e.symm
      simp [List.getD, h, h']
theorem liveF_marks {gone : List Bool} {n : Nat} (hn : gone.length = n) (i : Nat) (U : List Nat) : liveF (marks gone U) i n = (liveF gone i n).filter fun k => !decide (k ∈ U) := by
  unfold liveF
  rw [List.filter_filter]
  refine List.filter_congr fun k hk => ?_
  have hk' := List.mem_range'_1.1 hk
  rw [marks_getD U gone k (by omega)]
  cases gone.getD k false <;> simp

section
variable {f : Nat → Int} {cls : Int → Int} {row : List Int → Option WR}
theorem longTo_more (A : List Nat) (m : Nat) (h : A.length ≤ m) : ∀ d, longTo f row A (m + d) = longTo f row A m
  | 0 => rfl
  | d + 1 => by
    show longTo f row A (m + d + 1) = _
    rw [longTo, if_neg (by omega), longTo_more A m h d]
theorem longTo_atk (A : List Nat) {k : Nat} (h1 : 1 ≤ k) (h : k ≤ A.length) : longTo f row A k = match row ((A.take k).map f) with
    | some x => some (k, x)
    | none => longTo f row A (k - 1) := by
  obtain ⟨j, rfl⟩ : ∃ j, k = j + 1 := ⟨k - 1, by omega⟩
  rw [longTo, if_pos h, Nat.add_sub_cancel]
  cases row ((A.take (j + 1)).map f) <;> rfl
theorem longTo_end (A : List Nat) {k : Nat} (h1 : 1 ≤ k) (h4 : k ≤ 4) (h : ¬ k ≤ 3 ∨ ¬ k ≤ A.length) : longTo f row A 3 = longTo f row A (k - 1) := by
  rcases h with h | h
  · rw [show k = 4 by omega]
  · have := longTo_more (f := f) (row := row) A (k - 1) (by omega) (3 - (k - 1))
    rwa [show k - 1 + (3 - (k - 1)) = 3 by omega] at this
/-- the pass of take, at some place. -/
structure Tk (f : Nat → Int) (cls : Int → Int) (row : List Int → Option WR) (x0 : WR) (A : List Nat) (n0 : Nat) (best : WR) (passed : Int) (used : List Nat) (k : Nat) : Prop where
  lo : n0 ≤ k
  hi : k ≤ A.length
  eq : lengthenG f cls row x0 0 (A.drop n0) = ((lengthenG f cls row best passed (A.drop k)).1, (A.take k).filter (fun z => !decide (z ∈ used)) ++ (lengthenG f cls row best passed (A.drop k)).2)
  of : used.map f = best.of
  row : row best.of = some best
  sub : ∀ u ∈ used, u ∈ A.take k
  fst : ∀ u ∈ A.take n0, u ∈ used
  len : used.length ≤ k
variable {x0 best : WR} {A used : List Nat} {n0 k : Nat} {passed : Int}
theorem Tk.start (hx : ∀ k x, row k = some x → x.of = k) (h : longTo f row A 3 = some (n0, x0)) : Tk f cls row x0 A n0 x0 0 (A.take n0) n0 := by
  obtain ⟨_, _, h3, h4⟩ := longTo_some f row h
  have h5 := hx _ _ h4
  refine ⟨Nat.le_refl _, h3, ?_, h5.symm, by rw [h5]; exact h4, fun u hu => hu, fun u hu => hu, by rw [List.length_take]; omega⟩
  have : (A.take n0).filter (fun z => !decide (z ∈ A.take n0)) = [] := by
    rw [List.filter_eq_nil_iff]
    intro z hz
    simp only [hz, decide_true, Bool.not_true, Bool.false_eq_true, not_false_eq_true]
  rw [this]; rfl
theorem take_nd (hA : A.Pairwise (· < ·)) (hk : k < A.length) : A[k] ∉ A.take k := by
  intro h
  obtain ⟨j, hj, he⟩ := List.getElem_of_mem h
  rw [List.length_take] at hj
  rw [List.getElem_take] at he
  have := List.pairwise_iff_getElem.1 hA j k (by omega) hk (by omega)
  omega
theorem filter_snoc (P : Nat → Bool) (hk : k < A.length) : (A.take (k + 1)).filter P = (A.take k).filter P ++ if P A[k] then [A[k]] else [] := by
  rw [List.take_succ_eq_append_getElem hk, List.filter_append]
  congr 1
  simp [List.filter_cons]
theorem Tk.skip (hA : A.Pairwise (· < ·)) (h : Tk f cls row x0 A n0 best passed used k) (hk : k < A.length) (hc : cls (f A[k]) ≠ 0) (hp : cls (f A[k]) ≤ passed) : Tk f cls row x0 A n0 best passed used (k + 1) := by
  have hn : A[k] ∉ used := fun hu => take_nd hA hk (h.sub _ hu)
  refine ⟨by have := h.lo; omega, by omega, ?_, h.of, h.row, fun u hu => ?_, h.fst, by have := h.len; omega⟩
  · rw [h.eq, List.drop_eq_getElem_cons hk, lengthenG, if_neg hc, if_pos hp, filter_snoc _ hk]
    simp [hn]
  · rw [List.take_succ_eq_append_getElem hk]; exact List.mem_append.2 (Or.inl (h.sub u hu))
theorem Tk.none (hA : A.Pairwise (· < ·)) (h : Tk f cls row x0 A n0 best passed used k) (hk : k < A.length) (hc : cls (f A[k]) ≠ 0) (hp : ¬ cls (f A[k]) ≤ passed) (hr : row (best.of ++ [f A[k]]) = none) : Tk f cls row x0 A n0 best (cls (f A[k])) used (k + 1) := by
  have hn : A[k] ∉ used := fun hu => take_nd hA hk (h.sub _ hu)
  refine ⟨by have := h.lo; omega, by omega, ?_, h.of, h.row, fun u hu => ?_, h.fst, by have := h.len; omega⟩
  · rw [h.eq, List.drop_eq_getElem_cons hk, lengthenG, if_neg hc, if_neg hp, hr, filter_snoc _ hk]
    simp [hn]
  · rw [List.take_succ_eq_append_getElem hk]; exact List.mem_append.2 (Or.inl (h.sub u hu))
theorem Tk.take (hA : A.Pairwise (· < ·)) (hx : ∀ k x, row k = some x → x.of = k) (h : Tk f cls row x0 A n0 best passed used k) (hk : k < A.length) (hc : cls (f A[k]) ≠ 0) (hp : ¬ cls (f A[k]) ≤ passed) {x : WR} (hr : row (best.of ++ [f A[k]]) = some x) : Tk f cls row x0 A n0 x passed (used ++ [A[k]]) (k + 1) := by
  have hn := take_nd hA hk
  have h5 := hx _ _ hr
  refine ⟨by have := h.lo; omega, by omega, ?_, ?_, by rw [h5]; exact hr, fun u hu => ?_, fun u hu => List.mem_append.2 (Or.inl (h.fst u hu)), by have := h.len; simp; omega⟩
  · rw [h.eq, List.drop_eq_getElem_cons hk, lengthenG, if_neg hc, if_neg hp, hr, filter_snoc _ hk]
    have e1 : (A.take k).filter (fun z => !decide (z ∈ used ++ [A[k]])) = (A.take k).filter (fun z => !decide (z ∈ used)) := by
      refine List.filter_congr fun z hz => ?_
      have : z ≠ A[k] := fun e => hn (e ▸ hz)
      simp [this]
    rw [e1]
    simp
  · rw [List.map_append, h.of, h5]; rfl
  · rw [List.take_succ_eq_append_getElem hk]
    rcases List.mem_append.1 hu with hu | hu
    · exact List.mem_append.2 (Or.inl (h.sub u hu))
    · exact List.mem_append.2 (Or.inr hu)
theorem Tk.stop (hA : A.Pairwise (· < ·)) (h : Tk f cls row x0 A n0 best passed used k) (hs : k = A.length ∨ ∃ hk : k < A.length, cls (f A[k]) = 0) : lengthenG f cls row x0 0 (A.drop n0) = (best, A.filter fun z => !decide (z ∈ used)) := by
  have hsplit : A.filter (fun z => !decide (z ∈ used)) = (A.take k).filter (fun z => !decide (z ∈ used)) ++ A.drop k := by
    have e : A.take k ++ A.drop k = A := List.take_append_drop k A
    have : (A.drop k).filter (fun z => !decide (z ∈ used)) = A.drop k := by
      rw [List.filter_eq_self]
      intro z hz
      have hns : z ∉ used := by
        intro hu
        have h1 := h.sub z hu
        rw [← e] at hA
        have := (List.pairwise_append.1 hA).2.2 z h1 z hz
        omega
      simp [hns]
    rw [← this, ← List.filter_append, e]
  rw [h.eq, hsplit]
  rcases hs with rfl | ⟨hk, hc⟩
  · rw [List.drop_length]; simp [lengthenG]
  · rw [List.drop_eq_getElem_cons hk, lengthenG, if_pos hc]
/-- what the places from i on weigh, once those taken are marked. -/
theorem Tk.weighs {gone : List Bool} {i n : Nat} (hn : gone.length = n) (hi : i < n) (hg : gone.getD i false = false) (hl : longTo f row (liveF gone i n) 3 = some (n0, x0)) (h : Tk f cls row x0 (liveF gone i n) n0 best passed used k) (hs : k = (liveF gone i n).length ∨ ∃ hk : k < (liveF gone i n).length, cls (f (liveF gone i n)[k]) = 0) :
    weighG f cls row (liveF gone i n) = best.to ++ weighG f cls row (liveF (marks gone used) (i + 1) n) := by
  rw [weigh_some f cls row hl, h.stop (liveF_srt _ _ _) hs]
  dsimp only
  rw [← liveF_marks hn, liveF_gone hi]
  rw [marks_getD used gone i (by omega)]
  obtain ⟨h1, _, h3, _⟩ := longTo_some f row hl
  have : i ∈ used := by
    refine h.fst i ?_
    rw [liveF_live hi hg]
    obtain ⟨m, rfl⟩ : ∃ m, n0 = m + 1 := ⟨n0 - 1, by omega⟩
    simp
  simp [this]
end
end Go.Gz
namespace Go.Proofs.Ytnbdekmmailjmaa
open Go.RowKit Go.Gz Go.Sort

theorem info_int : (Try.prog.info? 3).map (fun i => (i.zero, i.size, i.bytes)) = some (some (.int .i64 0), 1, 8) := by kernel_rfl
theorem info_bool : (Try.prog.info? 4).map (fun i => (i.zero, i.size, i.bytes)) = some (some (.bool false), 1, 1) := by kernel_rfl
def ofN (l : List Nat) : List Int := l.map fun (k : Nat) => (k : Int)
theorem ofN_length (l : List Nat) : (ofN l).length = l.length := by simp [ofN]
theorem ofN_getD {l : List Nat} {j : Nat} (h : j < l.length) : (ofN l).getD j 0 = ((l[j] : Nat) : Int) := by simp [ofN, List.getD, h]
theorem ofN_snoc (l : List Nat) (a : Nat) : ofN (l ++ [a]) = ofN l ++ [(a : Int)] := by simp [ofN]
theorem ofN_take (l : List Nat) (k : Nat) : ofN (l.take k) = (ofN l).take k := by simp [ofN, List.map_take]
theorem Row.take {w : World} {k : IntKind} {p : Option Addr} {xs : List Int} (h : Row w k p xs) (n : Nat) : Row w k p (xs.take n) := by
  rcases h with h | ⟨b, off, hp, hlt, hc⟩
  · exact Or.inl (by rw [h]; exact List.take_nil)
  · refine Or.inr ⟨b, off, hp, hlt, fun j hj => ?_⟩
    rw [List.length_take] at hj
    rw [hc j (by omega)]
    simp [List.getD, show j < n by omega]
theorem oneI (w : World) (k : IntKind) (x : Int) (t : TypeId) : ∀ j, j < 1 → (w.alloc (.cells #[.int k x] t)).cell? ⟨w.heap.size, j, none⟩ = some (.int k ([x].getD j 0)) := by
  intro j hj
  obtain rfl : j = 0 := by omega
  rw [World.cell?_alloc_new]; rfl

def TkR (W : World) (f : Nat → Int) (A : List Nat) (v i : Value) (wr : World) (g : Nat) : Prop := ∃ k : Nat, i = .int .i64 (k : Int) ∧ k ≤ A.length ∧ A.length - k ≤ g ∧ Below W.heap.size W wr ∧ Own wr W.heap.size 21 .i32 v ((A.map f).take k)

set_option maxHeartbeats 1000000 in
set_option maxRecDepth 100000 in
theorem refTake_any (s : List Int) (q : Option Addr) (c : Nat) (A : List Nat) (qa : Option Addr) (ca : Nat) (W : World) (hs : Row W .i32 q s) (hA : Row W .i64 qa (ofN A)) (hlt : ∀ a ∈ A, a < s.length) (hz : A.length ≤ 100000) (_hsz : s.length ≤ 100000) :
    Calls Try.prog 22 #[.slice q s.length c, .slice qa A.length ca] W (RetOwn W (A.map fun i => s.getD i 0)) := by
  have HS := Lib.hid hs; clear hs
  have HA := Lib.hid hA; clear hA
  have HLT := Lib.hid hlt; clear hlt
  obtain ⟨f, hf⟩ : ∃ f : Nat → Int, (fun i => s.getD i 0) = f := ⟨_, rfl⟩
  rw [hf]
  have HF := Lib.hid (fun i => congrFun hf i)
  clear hf
  go_enter Try.func22, Try.ntmps22
  go_wp2_with fail
  go_loopg [5, 6] A.length (fun g v i wr => Hid (TkR W f A v i wr g))
  case atStart => exact Lib.hid ⟨0, rfl, Nat.zero_le _, by omega, Below.refl _ _, Own.nil _ _ _ _⟩
  case round =>
    have hrel' := hrel.out
    clear hrel
    obtain ⟨k, rfl, hk, hg, hb, hown⟩ := hrel'
    have HB := Lib.hid hb; clear hb
    have HO := Lib.hid hown; clear hown
    have hsz2 := HB.out.size
    by_cases hltk : k < A.length
    · have hltz : (k : Int) < (A.length : Int) := by omega
      obtain ⟨b, o, rfl, hbW, hcell⟩ := row_cell HA.out HB.out (by rw [ofN_length]; exact hltk)
      rw [ofN_getD hltk] at hcell
      have hak := HLT.out A[k] (List.getElem_mem hltk)
      have HTS := Lib.hid (show (A.map f).take (k + 1) = (A.map f).take k ++ [f A[k]] by
        rw [List.take_succ_eq_append_getElem (by simpa using hltk)]; simp)
      obtain ⟨a, ha⟩ : ∃ a, A[k] = a := ⟨_, rfl⟩
      rw [ha] at hcell hak HTS
      clear ha
      have hakz : (a : Int) < (s.length : Int) := by omega
      obtain ⟨b', o', rfl, hbW', hcell'⟩ := row_cell HS.out HB.out hak
      rw [HF.out a] at hcell'
      obtain ⟨r, hr⟩ : ∃ r, f a = r := ⟨_, rfl⟩
      rw [hr] at hcell' HTS
      clear hr
      have hlen : ((A.map f).take k).length ≤ 100000 := by simp; omega
      go_wp2_with (at_builtin; refine wpList_own_push rfl _ _ 26 rfl 21 .i32 4 Try.underlying26 info_rune (by decide) W.heap.size _ _ rfl (HO.out.alloc _) wr.heap.size 1 1 [r] rfl rfl ?newCells ?lenOk ?below ?_)
      case newCells => exact oneI _ _ _ _
      case lenOk => omega
      case below => simp; omega
      intro v' w4 hown4 hgrow4
      have HB4 := Lib.hid ((HB.out.alloc hsz2 _).grown hgrow4 (by simp; omega) (fun g hg => HO.out.lt g hg))
      have HO4 := Lib.hid hown4; clear hown4 hgrow4
      go_wp2_with fail
      go_roundg (A.length - (k + 1))
      case measure => omega
      case rel => exact Lib.hid ⟨k + 1, by go_num, by omega, by omega, HB4.out, by rw [HTS.out]; exact HO4.out⟩
    · obtain rfl : k = A.length := by omega
      have hltz : ¬ (A.length : Int) < (A.length : Int) := by omega
      go_wp2_with fail
      go_ret
      exact ⟨_, rfl, HB.out, by have := HO.out; rw [List.take_of_length_le (by simp)] at this; exact this⟩

/-- append of one number onto a row of the call's own, at a step of a region that draws its order. -/
theorem step_own_push {P : Program} {w : World} {ops : Array Oper} {o : Oper} {a : Act} {K : Act → World → Prop} {Q : Exit → Act → World → Prop} {E : Prop} (hgd : o.guard = none) (s x : Operand) (t : TypeId)
    (ho : o.op = .call { callee := .builtin .append, args := #[s, x], argTypes := #[t, t] })
    (e : TypeId) (k : IntKind) (bytes : Nat) (h1 : P.underlying t = some (.slice e)) (hinfo : (P.info? e).map (fun i => (i.zero, i.size, i.bytes)) = some (some (.int k 0), 1, bytes)) (hby : bytes ≤ 8)
    (B : Nat) (v : Value) (xs : List Int) (hs : a.eval s = v) (hown : Own w B e k v xs)
    (G c : Nat) (y : Int) (hx : a.eval x = .slice (some ⟨G, 0, none⟩) 1 c) (hc : w.cell? ⟨G, 0, none⟩ = some (.int k y)) (hlen : xs.length + 1 ≤ 1000000) (hB : B ≤ w.heap.size)
    (hK : ∀ p n c' w', n = (xs ++ [y]).length → Row w' k p (xs ++ [y]) → Below B w w' → K (a.put o.dst (.slice p n c')) w') :
    if Region.wanted o (yielded ops a.tmps) = true then Oper.wp P o a w K Q else E := by
  obtain ⟨i0, hi, hz0, hz1, hz2⟩ := info_parts hinfo
  refine step_append_lies w hgd s x t ho B e i0 (.int k 0) 1 bytes h1 hi hz0 hz1 hz2 rfl (by decide) v xs.length (xs.map (Value.int k)) hs hown ⟨G, 0, none⟩ 1 c [.int k y] hx rfl ?_ ?_ (by omega) (by unfold maxLen; omega) ?_ hB _ rfl ?_
  · intro j u hj
    obtain ⟨hj', rfl⟩ := List.getElem?_eq_some_iff.1 hj
    simp only [List.length_singleton] at hj'
    obtain rfl : j = 0 := by omega
    rw [Addr.add_lit, hc]; rfl
  · intro u hu
    rw [List.mem_singleton.1 hu]; rfl
  · have : (xs.length + 1) * bytes ≤ (xs.length + 1) * 8 := Nat.mul_le_mul_left _ hby
    omega
  · intro g cap w' ho' hgr _ _
    have hown' : Own w' B e k (.slice (some ⟨g, 0, none⟩) (xs.length + 1) cap) (xs ++ [y]) := by
      unfold Own
      rw [List.length_append, List.map_append]
      exact ho'
    obtain ⟨p, c', hv, _, hr⟩ := Own.row hown'
    injection hv with hp hn hcc
    refine hK _ _ _ _ (by simp) (hp ▸ hr) ?_
    exact (Below.refl B w).grown hgr hB fun g' hg' => (World.ownsRow.lt hown g' hg').1

theorem heap_new1 (w : World) (o1 o2 : Obj) : ((w.alloc o1).alloc o2).heap[w.heap.size + 1]? = some o2 := by
  have := heap_new (w.alloc o1) o2
  rwa [World.size_alloc] at this
/-- what is gone, at block g. -/
def GoneAt (w : World) (B g : Nat) (gone : List Bool) : Prop := w.ownsRow B 4 1 (.slice (some ⟨g, 0, none⟩) gone.length gone.length) gone.length (gone.map Value.bool)
theorem GoneAt.cell {w : World} {B g : Nat} {gone : List Bool} (h : GoneAt w B g gone) {j : Nat} (hj : j < gone.length) : w.cell? ⟨g, j, none⟩ = some (.bool (gone.getD j false)) := by
  have := World.ownsRow.cellAt h j (by omega)
  rw [this]
  simp [List.getD, hj]
theorem GoneAt.froz {w : World} {B g : Nat} {gone : List Bool} (h : GoneAt w B g gone) (j : Nat) : w.frozen? ⟨g, j, none⟩ = false := World.ownsRow.frozenAt h j
theorem GoneAt.set {w : World} {B g : Nat} {gone : List Bool} (h : GoneAt w B g gone) (j : Nat) (b : Bool) : GoneAt (w.setCell ⟨g, j, none⟩ (.bool b)) B g (gone.set j b) := by
  have := (World.ownsRow.stored h j (.bool b)).1
  unfold GoneAt
  rw [List.length_set, List.map_set]
  exact this
theorem GoneAt.below {w w' : World} {B g : Nat} {gone : List Bool} (h : GoneAt w B g gone) (hb : Below w.heap.size w w') : GoneAt w' B g gone := by
  obtain ⟨h1, h2 | ⟨g', cap, cur, hv, hg, hh, hr⟩⟩ := h
  · exact ⟨h1, Or.inl h2⟩
  · exact ⟨h1, Or.inr ⟨g', cap, cur, hv, hg, (hb.block g' (Array.getElem?_eq_some_iff.1 hh).1).trans hh, hr⟩⟩
theorem GoneAt.kept {w w' : World} {B B' g : Nat} {gone : List Bool} (h : GoneAt w B g gone) (hb : Below B' w w') (hlt : g < B') : GoneAt w' B g gone := by
  obtain ⟨h1, h2 | ⟨g', cap, cur, hv, hg, hh, hr⟩⟩ := h
  · exact ⟨h1, Or.inl h2⟩
  · injection hv with hp hn hc
    injection hp with hp
    injection hp with hp _ _
    subst hp; subst hc
    exact ⟨h1, Or.inr ⟨g, gone.length, cur, rfl, hg, (hb.block g hlt).trans hh, hr⟩⟩
theorem GoneAt.lt {w : World} {B g : Nat} {gone : List Bool} (h : GoneAt w B g gone) : B ≤ g ∧ g < w.heap.size := World.ownsRow.lt h g rfl
end Go.Proofs.Ytnbdekmmailjmaa
namespace Go.Proofs.Ytnbdekmmailjmaa
open Go.RowKit Go.Gz Go.Sort

theorem find_none {ls : List LR} {z : Int} (h : ∀ x ∈ ls, x.r ≠ z) : ls.find? (fun x => decide (x.r = z)) = none := by
  rw [List.find?_eq_none]
  intro x hx
  simpa using h x hx
theorem cls_none {ls : List LR} {z : Int} (h : ∀ x ∈ ls, x.r ≠ z) : clsL ls z = 0 := by
  unfold clsL findL
  rw [find_none h]; rfl
theorem to_none {ls : List LR} {z : Int} (h : ∀ x ∈ ls, x.r ≠ z) : toL ls z = [] := by
  unfold toL findL
  rw [find_none h]; rfl
theorem rowL_none {rs : List WR} {z : Int} (h : ∀ x ∈ rs, z ∉ x.of) (k : List Int) (hk : z ∈ k) : rowL rs k = none := by
  cases hr : rowL rs k with
  | none => rfl
  | some x =>
    obtain ⟨hx, rfl⟩ := row_some hr
    exact absurd hk (h x hx)
theorem apart_part {ls : List LR} {z : Int} (h : ∀ x ∈ ls, x.r ≠ z) (a b : List Int) : apartL ls (a ++ z :: b) = apartL ls a ++ z :: apartL ls b := by
  rw [apart_append]
  have h1 : ap1 ls z = [z] := by unfold ap1; rw [to_none h]; rfl
  have h2 : apartL ls (z :: b) = ap1 ls z ++ apartL ls b := by simp [apartL]
  rw [h2, h1]; rfl
theorem normal_part {ls : List LR} {z : Int} (h : ∀ x ∈ ls, x.r ≠ z) (a b : List Int) : normalL ls (a ++ z :: b) = normalL ls a ++ z :: normalL ls b := by
  unfold normalL
  rw [apart_part h, order_part (by rw [cls_none h]; exact Int.le_refl _)]
theorem elem_part {ls : List LR} {rs : List WR} {z : Int} (h : ∀ x ∈ ls, x.r ≠ z) (hr : ∀ x ∈ rs, z ∉ x.of) (a b : List Int) : elemL ls rs (a ++ z :: b) = elemL ls rs a ++ (impl z ++ elemL ls rs b) := by
  unfold elemL
  rw [normal_part h]
  exact weigh_part (rowL_none hr) (cls_none h) _ _ _ (Nat.le_refl _)
theorem any_part {z : Int} (hz : mayNotB z = false) (a b : List Int) : (a ++ z :: b).any mayNotB = (a.any mayNotB || b.any mayNotB) := by
  simp [hz]

/-- elements and an error's number, by a table that may be. -/
def RetEls (T : TB) (s : List Int) (W : World) (e : Ending) (w' : World) : Prop :=
  ∃ p n c er, e = .returned (.tuple #[.slice p n c, .int .i64 er]) ∧ Below W.heap.size W w' ∧ ((s.any mayNotB = true ∧ er = 2) ∨ (s.any mayNotB = false ∧ er = 0 ∧ n = (elemL T.ls T.rs s).length ∧ Els w' p (elemL T.ls T.rs s)))
theorem elements_is (T : TB) (hm : mayWB T.ls T.rs T.top = true) (s : List Int) (q : Option Addr) (c : Nat) (W : World) (hT : TableAt W T) (hs : Row W .i32 q s) (hz : s.length ≤ 60000) :
    Calls Try.prog 8 #[.agg #[.slice T.lp T.ls.length T.lc, .slice T.rp T.rs.length T.rc, .int .i64 T.top, .bool T.sh], .slice q s.length c] W (RetEls T s W) := by
  cases hv : s.any mayNotB with
  | true => exact (elements_text T hm s hv q c W hT hs hz).mono fun e w' h => ⟨none, 0, 0, 2, h.1, h.2, Or.inl ⟨hv, rfl⟩⟩
  | false =>
    refine (elements_ok T hm s hv q c W hT hs hz).mono fun e w' h => ?_
    obtain ⟨v, rfl, hb, hown⟩ := h
    obtain ⟨p, k, rfl, _, _, hels⟩ := OwnE.row hown
    exact ⟨p, _, k, 0, rfl, hb, Or.inr ⟨hv, rfl, rfl, hels⟩⟩

/-- append of a row of numbers onto a row of the call's own, at a step of a region that draws its order. -/
theorem step_own_row {P : Program} {w : World} {ops : Array Oper} {o : Oper} {a : Act} {K : Act → World → Prop} {Q : Exit → Act → World → Prop} {E : Prop} (hgd : o.guard = none) (s x : Operand) (t : TypeId)
    (ho : o.op = .call { callee := .builtin .append, args := #[s, x], argTypes := #[t, t] })
    (e : TypeId) (k : IntKind) (bytes : Nat) (h1 : P.underlying t = some (.slice e)) (hinfo : (P.info? e).map (fun i => (i.zero, i.size, i.bytes)) = some (some (.int k 0), 1, bytes)) (hby : bytes ≤ 8)
    (B : Nat) (v : Value) (xs : List Int) (hs : a.eval s = v) (hown : Own w B e k v xs)
    (p : Option Addr) (c : Nat) (ys : List Int) (hx : a.eval x = .slice p ys.length c) (hrow : Row w k p ys) (hpc : p = none → c = 0) (hlen : xs.length + ys.length ≤ 1000000) (hB : B ≤ w.heap.size)
    (hK : ∀ v' w', Own w' B e k v' (xs ++ ys) → w.grownBy w' v.ownBlock → Below B w w' → K (a.put o.dst v') w') :
    if Region.wanted o (yielded ops a.tmps) = true then Oper.wp P o a w K Q else E := by
  have hw : Region.wanted o (yielded ops a.tmps) = true := by simp [Region.wanted, hgd]
  rw [if_pos hw]
  obtain ⟨i0, hi, hz0, hz1, hz2⟩ := info_parts hinfo
  cases p with
  | none =>
    obtain rfl : ys = [] := by
      rcases hrow with h | ⟨b, off, hp', _⟩
      · exact h
      · cases hp'
    obtain rfl := hpc rfl
    have hrun := run_append_owned_none (P := P) (w := w) B t o.type e i0 1 h1 hi v xs.length (xs.map (Value.int k)) hown
    unfold Oper.wp
    have hx' : a.eval x = .slice none 0 0 := hx
    simp [execOp, ho, resolve, invoke, builtin, hs, hx', hrun, Result.andThen]
    exact hK v w (by rw [List.append_nil]; exact hown) (World.grownBy.refl _ _) (Below.refl _ _)
  | some ad =>
    obtain ⟨v', w', hr, h2, h3, _, _⟩ := run_append_own_at (P := P) w B t o.type e i0 (.int k 0) 1 bytes h1 hi hz0 hz1 hz2 rfl (by decide) v xs.length (xs.map (Value.int k)) hown ad ys.length c (ys.map (Value.int k)) (by simp) (by
      intro j u hj
      obtain ⟨hj', rfl⟩ := List.getElem?_eq_some_iff.1 hj
      simp only [List.length_map] at hj'
      rcases hrow with h | ⟨b, off, hp', _, hc⟩
      · rw [h] at hj'; simp at hj'
      · cases hp'
        rw [Addr.add_lit, hc j hj']
        simp [List.getD, hj']) (by
      intro u hu
      obtain ⟨y, _, rfl⟩ := List.mem_map.1 hu
      rfl) (by unfold maxLen; omega) (by
      have : (xs.length + ys.length) * bytes ≤ (xs.length + ys.length) * 8 := Nat.mul_le_mul_left _ hby
      omega) hB
    unfold Oper.wp
    simp [execOp, ho, resolve, invoke, builtin, hs, hx, hr, Result.andThen]
    refine hK v' w' ?_ h3 ((Below.refl B w).grown h3 hB fun g hg => (World.ownsRow.lt hown g hg).1)
    unfold Own
    rw [List.length_append, List.map_append]
    exact h2
theorem Els.front {w : World} {p : Option Addr} {xs ys : List EL} (h : Els w p (xs ++ ys)) : Els w p xs := by
  rcases h with h | ⟨b, off, hp, hlt, hc⟩
  · exact Or.inl (List.append_eq_nil_iff.1 h).1
  · refine Or.inr ⟨b, off, hp, hlt, fun j hj => ?_⟩
    have := hc j (by simp; omega)
    rwa [show (xs ++ ys)[j]! = xs[j]! by rw [getElem!_pos (xs ++ ys) j (by simp; omega), getElem!_pos xs j hj, List.getElem_append_left hj]] at this
theorem s_keep4 {wq w : World} {b0 : Nat} {v0 v1 v2 v3 : Value} (hb : Below wq.heap.size wq w) (h0 : b0 < wq.heap.size) (c0 : wq.cell? ⟨b0, 0, none⟩ = some v0) (c1 : wq.cell? ⟨b0, 1, none⟩ = some v1) (c2 : wq.cell? ⟨b0, 2, none⟩ = some v2) (c3 : wq.cell? ⟨b0, 3, none⟩ = some v3) :
    w.cell? ⟨b0, 0, none⟩ = some v0 ∧ w.cell? ⟨b0, 1, none⟩ = some v1 ∧ w.cell? ⟨b0, 2, none⟩ = some v2 ∧ w.cell? ⟨b0, 3, none⟩ = some v3 :=
  ⟨cellB hb c0 h0, cellB hb c1 h0, cellB hb c2 h0, cellB hb c3 h0⟩
/-- elements and an error's number, as a call left them in two variables. -/
def ZRel (T : TB) (s : List Int) (W : World) (z g : Value) (w' : World) : Prop :=
  ∃ p n c er, z = .slice p n c ∧ g = .int .i64 er ∧ Below W.heap.size W w' ∧ ((s.any mayNotB = true ∧ er = 2) ∨ (s.any mayNotB = false ∧ er = 0 ∧ n = (elemL T.ls T.rs s).length ∧ Els w' p (elemL T.ls T.rs s)))
end Go.Proofs.Ytnbdekmmailjmaa
namespace Go.Proofs.Ytnbdekmmailjmaa
open Go.RowKit Go.Gz Go.Sort

def FewPost (ls : List LR) (rs : List WR) (s : List Int) (W : World) (e : Ending) (w' : World) : Prop := ∃ bv : Bool, e = .returned (.bool bv) ∧ (bv = true → ls.length ≤ 100 ∧ rs.length ≤ 100 ∧ s.length ≤ 200) ∧ Below W.heap.size W w'

set_option maxHeartbeats 4000000 in
set_option maxRecDepth 100000 in
theorem few_any (lp : Option Addr) (ls : List LR) (lc : Nat) (rp : Option Addr) (rs : List WR) (rc : Nat) (top : Int) (sh : Bool) (s : List Int) (q : Option Addr) (c : Nat) (W : World) (hlo : Lores W lp ls) (hro : Wrs W rp rs) (hsz : ls.length ≤ 9223372036854775807) (hrz : rs.length ≤ 9223372036854775807) (hxs : ∀ x ∈ ls, x.to.length ≤ 9223372036854775807) (hof : ∀ x ∈ rs, x.of.length ≤ 9223372036854775807 ∧ x.to.length ≤ 9223372036854775807) (hz : s.length ≤ 9223372036854775807) :
    Calls Try.prog 7 #[.agg #[.slice lp ls.length lc, .slice rp rs.length rc, .int .i64 top, .bool sh], .slice q s.length c] W (FewPost ls rs s W) := by
  have HLO := Lib.hid hlo; clear hlo
  have HRO := Lib.hid hro; clear hro
  have HXS := Lib.hid hxs; clear hxs
  have HOF := Lib.hid hof; clear hof
  go_enter Try.func7, Try.ntmps7
  go_wp2_with fail
  obtain ⟨w0, hw0⟩ : ∃ w0, W.alloc (.cells #[.slice lp ls.length lc, .slice rp rs.length rc, .int .i64 top, .bool sh] 25) = w0 := ⟨_, rfl⟩
  rw [hw0]
  have hb0 := Lib.hid (show Below W.heap.size W w0 from hw0 ▸ (Below.refl _ _).alloc (Nat.le_refl _) _)
  have hs0 : W.heap.size < w0.heap.size := by rw [← hw0]; simp
  have T0 := Lib.hid (show w0.cell? ⟨W.heap.size, 0, none⟩ = some (.slice lp ls.length lc) by rw [← hw0]; simp)
  have T1 := Lib.hid (show w0.cell? ⟨W.heap.size, 1, none⟩ = some (.slice rp rs.length rc) by rw [← hw0]; simp)
  clear hw0
  go_loopg [5, 6] rs.length (fun g vn vi wr => ∃ (k : Nat) (z : Int), vn = .int .i64 z ∧ vi = .int .i64 k ∧ k ≤ rs.length ∧ rs.length - k ≤ g ∧ Hid (Below w0.heap.size w0 wr))
  case atStart => exact ⟨0, 0, rfl, rfl, Nat.zero_le _, by omega, Lib.hid (Below.refl _ _)⟩
  case round =>
    obtain ⟨k, z, rfl, rfl, hk, hg, HB⟩ := hrel
    have t1 := cellB HB.out T1.out hs0
    have t0 := cellB HB.out T0.out hs0
    have HW := Lib.hid (hb0.out.trans (HB.out.mono (Nat.le_of_lt hs0)))
    by_cases hlt : k < rs.length
    · have hltz : (k : Int) < (rs.length : Int) := by omega
      obtain ⟨b, off, rfl, hbW, c1, c2, _⟩ := HRO.out.at_ HW.out hlt
      obtain ⟨hf1, hf2⟩ := HOF.out _ (getW_mem hlt)
      generalize rs[k]! = x at c1 c2 hf1 hf2
      clear t0
      go_wp2_with fail
      go_quiet (fail)
      go_wp2_with fail
      go_roundg (rs.length - (k + 1))
      case measure => omega
      case rel => exact ⟨k + 1, _, rfl, by go_num, by omega, by omega, Lib.hid (below_drewN HB.out _)⟩
    · obtain rfl : k = rs.length := by omega
      have hltz : ¬ (rs.length : Int) < (rs.length : Int) := by omega
      go_wp2_with fail
      obtain ⟨w1, rfl⟩ : ∃ w1, w1 = wr := ⟨_, rfl⟩
      go_loopg [5, 7] ls.length (fun g vn vi w2 => ∃ (k : Nat) (z : Int), vn = .int .i64 z ∧ vi = .int .i64 k ∧ k ≤ ls.length ∧ ls.length - k ≤ g ∧ w2 = w1)
      case atStart => exact ⟨0, z, rfl, rfl, Nat.zero_le _, by omega, rfl⟩
      case round =>
        obtain ⟨k, z, rfl, rfl, hk, hg2, hw⟩ := hrel
        obtain rfl := hw
        by_cases hlt : k < ls.length
        · have hltz : (k : Int) < (ls.length : Int) := by omega
          obtain ⟨b, off, rfl, hbW, c1, c2, c3, _⟩ := HLO.out.at_ HW.out hlt
          have hf1 := HXS.out _ (get_mem hlt)
          generalize ls[k]! = x at c1 c2 c3 hf1
          go_wp2_with fail
          go_roundg (ls.length - (k + 1))
          case measure => omega
          case rel => exact ⟨k + 1, _, rfl, by go_num, by omega, by omega, rfl⟩
        · obtain rfl : k = ls.length := by omega
          have hltz : ¬ (ls.length : Int) < (ls.length : Int) := by omega
          by_cases h1 : rs.length ≤ 100
          · have h1z : decide ((rs.length : Int) ≤ 100) = true := decide_eq_true (by omega)
            by_cases h2 : ls.length ≤ 100
            · have h2z : decide ((ls.length : Int) ≤ 100) = true := decide_eq_true (by omega)
              by_cases h3 : z ≤ 1000
              · by_cases h4 : s.length ≤ 200
                · have h4z : (s.length : Int) ≤ 200 := by omega
                  have H := Lib.hid (show ls.length ≤ 100 ∧ rs.length ≤ 100 ∧ s.length ≤ 200 from ⟨h2, h1, h4⟩)
                  clear h1 h2 h4
                  go_wp2_with fail
                  go_ret
                  exact ⟨true, rfl, fun _ => H.out, HW.out⟩
                · have h4z : decide ((s.length : Int) ≤ 200) = false := decide_eq_false (by omega)
                  clear h4
                  go_wp2_with fail
                  go_ret
                  exact ⟨false, rfl, (fun h => by cases h), HW.out⟩
              · have h3z : decide (z ≤ 1000) = false := decide_eq_false h3
                clear h3
                go_wp2_with fail
                go_ret
                exact ⟨false, rfl, (fun h => by cases h), HW.out⟩
            · have h2z : decide ((ls.length : Int) ≤ 100) = false := decide_eq_false (by omega)
              clear h2
              go_wp2_with fail
              go_ret
              exact ⟨false, rfl, (fun h => by cases h), HW.out⟩
          · have h1z : decide ((rs.length : Int) ≤ 100) = false := decide_eq_false (by omega)
            clear h1
            go_wp2_with fail
            go_ret
            exact ⟨false, rfl, (fun h => by cases h), HW.out⟩
end Go.Proofs.Ytnbdekmmailjmaa
