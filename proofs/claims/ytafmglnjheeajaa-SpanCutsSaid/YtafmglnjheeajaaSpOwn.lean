/-
  Rows of texts and of spans that the call owns; the law's parts.
-/
import Derived.Test.YtafmglnjheeajaaSpCutM
import Derived.Test.YtafmglnjheeajaaSpArgs
import Derived.Test.YtafmglnjheeajaaSpAwake
import Derived.Maps.AppendAt
namespace Go.Proofs.Ytafmglnjheeajaa
open Go.RowKit Go.Gz

theorem info_str : (Try.prog.info? 9).map (fun i => (i.zero, i.size, i.bytes)) = some (some (.string ⟨#[]⟩), 1, 16) := by kernel_rfl
theorem info_span : (Try.prog.info? 23).map (fun i => (i.zero, i.size, i.bytes)) = some (some (.agg #[.string ⟨#[]⟩, .string ⟨#[]⟩]), 2, 32) := by kernel_rfl
/-- v is a row of texts that the call owns. -/
def OwnS (w : World) (B : Nat) (v : Value) (ss : List ByteArray) : Prop := w.ownsRow B 9 1 v ss.length (ss.map Value.string)
theorem OwnS.nil (w : World) (B : Nat) : OwnS w B (.slice none 0 0) [] := World.ownsRow_nil w B _ 1
theorem OwnS.row {w : World} {B : Nat} {v : Value} {ss : List ByteArray} (h : OwnS w B v ss) : ∃ p c, v = .slice p ss.length c ∧ ss.length ≤ c ∧ (p = none → c = 0) ∧ Strs w p ss := by
  obtain ⟨h1, ⟨rfl, h0⟩ | ⟨g, cap, cur, rfl, hg, hh, hc, hm, hs, ht⟩⟩ := h
  · have : ss = [] := List.eq_nil_of_length_eq_zero h0
    subst this
    exact ⟨none, 0, rfl, Nat.le_refl _, fun _ => rfl, Or.inl rfl⟩
  · refine ⟨_, cap, rfl, hc, (fun h => by cases h), Or.inr ⟨g, 0, rfl, (Array.getElem?_eq_some_iff.1 hh).1, fun j hj => ?_⟩⟩
    have e1 : cur[j]? = some (.string (ss.getD j ByteArray.empty)) := by
      have := congrArg (·[j]?) ht
      simp only [Nat.mul_one, List.getElem?_take, hj, if_true, Array.getElem?_toList, List.getElem?_map] at this
      rw [this]
      simp [List.getD, hj]
    simp only [World.cell?, hh, Nat.zero_add]
    exact e1
theorem OwnS.alloc {w : World} {B : Nat} {v : Value} {ss : List ByteArray} (h : OwnS w B v ss) (o : Obj) : OwnS (w.alloc o) B v ss := World.ownsRow.alloc h o
theorem OwnS.lt {w : World} {B : Nat} {v : Value} {ss : List ByteArray} (h : OwnS w B v ss) : ∀ g, v.ownBlock = some g → B ≤ g := fun g hg => (World.ownsRow.lt h g hg).1

def flatS (ls : List SP) : List Value := ls.flatMap fun s => [Value.string s.f, Value.string s.t]
theorem flatS_len (ls : List SP) : (flatS ls).length = ls.length * 2 := by
  induction ls with
  | nil => rfl
  | cons s r ih => simp [flatS] at ih ⊢; omega
theorem flatS_at (ls : List SP) : ∀ j, j < ls.length → (flatS ls)[j * 2]? = some (.string ls[j]!.f) ∧ (flatS ls)[j * 2 + 1]? = some (.string ls[j]!.t) := by
  induction ls with
  | nil => intro j hj; simp at hj
  | cons s r ih =>
    intro j hj
    cases j with
    | zero => exact ⟨rfl, rfl⟩
    | succ j =>
      have := ih j (by simpa using hj)
      rw [show (j + 1) * 2 = j * 2 + 2 by omega]
      simpa [flatS] using this
/-- v is a row of spans that the call owns. -/
def OwnP (w : World) (B : Nat) (v : Value) (ls : List SP) : Prop := w.ownsRow B 23 2 v ls.length (flatS ls)
theorem OwnP.nil (w : World) (B : Nat) : OwnP w B (.slice none 0 0) [] := World.ownsRow_nil w B _ 2
theorem OwnP.row {w : World} {B : Nat} {v : Value} {ls : List SP} (h : OwnP w B v ls) : ∃ p c, v = .slice p ls.length c ∧ ls.length ≤ c ∧ (p = none → c = 0) ∧ Spans w p ls := by
  obtain ⟨h1, ⟨rfl, h0⟩ | ⟨g, cap, cur, rfl, hg, hh, hc, hm, hs, ht⟩⟩ := h
  · have : ls = [] := List.eq_nil_of_length_eq_zero h0
    subst this
    exact ⟨none, 0, rfl, Nat.le_refl _, fun _ => rfl, Or.inl rfl⟩
  · refine ⟨_, cap, rfl, hc, (fun h => by cases h), Or.inr ⟨g, 0, rfl, (Array.getElem?_eq_some_iff.1 hh).1, fun j hj => ?_⟩⟩
    obtain ⟨a1, a2⟩ := flatS_at ls j hj
    have e : ∀ i, i < ls.length * 2 → cur[i]? = (flatS ls)[i]? := fun i hi => by
      rw [← ht, List.getElem?_take, if_pos hi, Array.getElem?_toList]
    simp only [World.cell?, hh, Nat.zero_add]
    exact ⟨by show cur[j * 2]? = _; rw [e _ (by omega)]; exact a1, by show cur[j * 2 + 1]? = _; rw [e _ (by omega)]; exact a2⟩
theorem OwnP.alloc {w : World} {B : Nat} {v : Value} {ls : List SP} (h : OwnP w B v ls) (o : Obj) : OwnP (w.alloc o) B v ls := World.ownsRow.alloc h o
theorem OwnP.lt {w : World} {B : Nat} {v : Value} {ls : List SP} (h : OwnP w B v ls) : ∀ g, v.ownBlock = some g → B ≤ g := fun g hg => (World.ownsRow.lt h g hg).1

/-- append of one span. -/
theorem wpList_push_span {w : World} {ops : Array Oper} {rest : List Oper} {o : Oper} {a : Act} {Q : Exit → Act → World → Prop}
    (hg : o.guard = none) (s x : Operand) (hop : o.op = Op.call { callee := Callee.builtin Builtin.append, args := #[s, x], argTypes := #[26, 26] })
    (B : Nat) (v : Value) (ls : List SP) (hs : a.eval s = v) (hown : OwnP w B v ls)
    (G c : Nat) (y : SP) (hx : a.eval x = .slice (some ⟨G, 0, none⟩) 1 c) (hc0 : w.cell? ⟨G, 0, none⟩ = some (.string y.f)) (hc1 : w.cell? ⟨G, 1, none⟩ = some (.string y.t))
    (hlen : ls.length ≤ 1000000) (hB : B ≤ w.heap.size)
    (hK : ∀ v' w', OwnP w' B v' (ls ++ [y]) → w.grownBy w' v.ownBlock → wpList Try.prog ops Q rest (a.put o.dst v') w') :
    wpList Try.prog ops Q (o :: rest) a w := by
  obtain ⟨i0, hi, hz0, hz1, hz2⟩ := info_parts info_span
  refine wpList_append_own w hg s x 26 hop B 23 i0 (.agg #[.string ⟨#[]⟩, .string ⟨#[]⟩]) 2 32 Try.underlying26 hi hz0 hz1 hz2 rfl (by decide) v ls.length (flatS ls) hs hown ⟨G, 0, none⟩ 1 c [.string y.f, .string y.t] hx rfl ?_ ?_ (by unfold maxLen; omega) (by omega) hB ?_
  · intro j u hj
    rw [Addr.add_lit, Nat.zero_add]
    match j, hj with
    | 0, hj => simp at hj; subst hj; exact hc0
    | 1, hj => simp at hj; subst hj; exact hc1
    | j + 2, hj => simp at hj
  · intro u hu
    simp only [List.mem_cons, List.not_mem_nil, or_false] at hu
    rcases hu with rfl | rfl <;> rfl
  · intro v' w' ho hgr _
    refine hK v' w' ?_ hgr
    unfold OwnP
    rw [List.length_append, show flatS (ls ++ [y]) = flatS ls ++ [.string y.f, .string y.t] by simp [flatS]]
    exact ho

theorem parts_succ (ss : List ByteArray) (i : Nat) : (List.range (i + 1)).map (spAt ss) = (List.range i).map (spAt ss) ++ [spAt ss i] := by
  rw [List.range_succ, List.map_append]; rfl
def PartsP (ss : List ByteArray) (w : World) (e : Ending) (w' : World) : Prop := ∃ q c, e = .returned (.slice q (ss.length + 1) c) ∧ ss.length + 1 ≤ c ∧ Below w.heap.size w w' ∧ Spans w' q (partsL ss)

set_option maxHeartbeats 2000000 in
theorem parts_any (ss : List ByteArray) (p : Option Addr) (c : Nat) (w : World) (hp : Strs w p ss) (hn : ss.length ≤ 1000) :
    Calls Try.prog 17 #[.slice p ss.length c] w (PartsP ss w) := by
  have HP := Lib.hid hp; clear hp
  have HF := Lib.hid (show ∀ v w', OwnP w' w.heap.size v (partsL ss) → Below w.heap.size w w' → PartsP ss w (.returned v) w' from fun v w' h1 h2 => by
    obtain ⟨q, c, rfl, h3, _, h4⟩ := h1.row
    rw [partsL_len] at h3
    exact ⟨q, c, by rw [partsL_len], h3, h2, h4⟩)
  obtain ⟨n, hln⟩ : ∃ n, ss.length = n := ⟨_, rfl⟩
  have HN := Lib.hid hln
  rw [hln] at hn ⊢
  clear hln
  go_enter Try.func17, Try.ntmps17
  go_wp2_with fail
  go_loopg [3, 4, 5] n (fun gg vl vf vi wr => ∃ i : Nat, i ≤ n ∧ n - i ≤ gg ∧ vi = .int .i64 i ∧ vf = .string ((sE :: ss).getD i sE) ∧ Hid (OwnP wr w.heap.size vl ((List.range i).map (spAt ss))) ∧ Hid (Below w.heap.size w wr))
  case atStart => exact ⟨0, by omega, by omega, rfl, rfl, Lib.hid (OwnP.nil _ _), Lib.hid (Below.refl _ _)⟩
  case round =>
    obtain ⟨i, hin, hgg, rfl, rfl, HA, HBr⟩ := hrel
    have hsz := HBr.out.size
    have HL := Lib.hid (show ((List.range i).map (spAt ss)).length = i by simp)
    obtain ⟨f, hf⟩ : ∃ f, (sE :: ss).getD i sE = f := ⟨_, rfl⟩
    obtain ⟨t, ht⟩ : ∃ t, ss.getD i sE = t := ⟨_, rfl⟩
    have HPA := Lib.hid (show spAt ss i = ⟨f, t⟩ by unfold spAt; rw [hf, ht])
    rw [hf]
    have HT := Lib.hid ht
    clear hf ht
    by_cases hlt : i < n
    · have hltz : (i : Int) < (n : Int) := by omega
      obtain ⟨b, o, rfl, hbl, c1⟩ := str_cell HP.out HBr.out (show i < ss.length by rw [HN.out]; exact hlt)
      have c1' : wr.cell? ⟨b, o + i, none⟩ = some (.string t) := by rw [← HT.out]; exact c1
      clear c1
      have hbr : b < wr.heap.size := Nat.lt_of_lt_of_le hbl hsz
      have bb := fun w => build_both f t w
      go_wp2_with (at_builtin; refine wpList_push_span rfl _ _ rfl w.heap.size _ _ rfl (HA.out.alloc _) wr.heap.size 1 ⟨f, t⟩ rfl ?c0 ?c1 ?len ?below ?_)
      case len => first | omega | (rw [HL.out]; omega)
      case below => simp; omega
      intro v' w' hown' hgr'
      have hb' := (HBr.out.alloc hsz (.cells #[.string f, .string t] 23)).grown hgr' (by simp; omega) (fun g hg => HA.out.lt g hg)
      have HB' := Lib.hid hb'
      rw [← HPA.out, ← parts_succ] at hown'
      have HA' := Lib.hid hown'
      have c2 : w'.cell? ⟨b, o + i, none⟩ = some (.string t) := by
        obtain ⟨b0, o0, e, _, c3⟩ := str_cell HP.out hb' (show i < ss.length by rw [HN.out]; exact hlt)
        injection e with e; injection e with e1 e2; subst e1; subst e2
        rw [c3]
        exact congrArg (fun x => some (Value.string x)) HT.out
      clear hown' hgr' hb' c1'
      go_wp2_with fail
      go_roundg (n - (i + 1))
      case measure => omega
      case rel => exact ⟨i + 1, by omega, by omega, by go_num, by rw [getD_succ, HT.out], HA', HB'⟩
    · obtain rfl : i = n := by omega
      have hltz : ¬ (i : Int) < (i : Int) := by omega
      have ht0 : t = sE := by
        rw [← HT.out, ← HN.out]
        exact getD_end ss
      subst ht0
      have bb := fun w => build_from f w
      go_wp2_with (at_builtin; refine wpList_push_span rfl _ _ rfl w.heap.size _ _ rfl (HA.out.alloc _) wr.heap.size 1 ⟨f, sE⟩ rfl ?d0 ?d1 ?len2 ?below2 ?_)
      case d1 => rfl
      case len2 => omega
      case below2 => first | omega | (simp; omega)
      intro v' w' hown' hgr'
      have HB' := Lib.hid ((HBr.out.alloc hsz (.cells #[.string f, .string ⟨#[]⟩] 23)).grown hgr' (by simp; omega) (fun g hg => HA.out.lt g hg))
      rw [← HPA.out, ← parts_succ, show (List.range (i + 1)).map (spAt ss) = partsL ss by unfold partsL; rw [HN.out]] at hown'
      have HA' := Lib.hid hown'
      clear hown' hgr'
      go_wp2_with fail
      go_ret
      exact HF.out _ _ HA'.out HB'.out
end Go.Proofs.Ytafmglnjheeajaa
