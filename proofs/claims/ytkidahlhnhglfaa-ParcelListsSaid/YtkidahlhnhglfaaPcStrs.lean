/-
  Layer parcel: rows of texts, read and of the call's own; appends of them; an argument that is a row of texts, with the form's own reach.
-/
import Derived.Test.YtkidahlhnhglfaaPcArgs
import Derived.Maps.AppendAt
import Derived.SizedLaws
namespace Go.Proofs.Ytkidahlhnhglfaa
open Go.RowKit Go.ChangeShapes Go.WideShapes Go.Gz Go.Deep

def Strs (w : World) (p : Option Addr) (ss : List ByteArray) : Prop :=
  ss = [] ∨ ∃ b off, p = some ⟨b, off, none⟩ ∧ b < w.heap.size ∧ ∀ j, j < ss.length → w.cell? ⟨b, off + j, none⟩ = some (.string (ss.getD j ByteArray.empty))
theorem Strs.below {w w' : World} {p : Option Addr} {ss : List ByteArray} (h : Strs w p ss) (hb : Below w.heap.size w w') : Strs w' p ss := by
  rcases h with h | ⟨b, off, hp, hlt, hc⟩
  · exact Or.inl h
  · exact Or.inr ⟨b, off, hp, Nat.lt_of_lt_of_le hlt hb.size, fun j hj => by rw [hb.cell (p := ⟨b, off + j, none⟩) hlt]; exact hc j hj⟩
theorem str_cell {W wr : World} {p : Option Addr} {ss : List ByteArray} (h : Strs W p ss) (hb : Below W.heap.size W wr) {j : Nat} (hj : j < ss.length) : ∃ b o, p = some ⟨b, o, none⟩ ∧ b < W.heap.size ∧ wr.cell? ⟨b, o + j, none⟩ = some (.string (ss.getD j ByteArray.empty)) := by
  rcases h with h | ⟨b, o, hp, h1, h2⟩
  · rw [h] at hj; simp at hj
  · exact ⟨b, o, hp, h1, by rw [hb.cell (p := ⟨b, o + j, none⟩) h1]; exact h2 j hj⟩
theorem info_str : (Try.prog.info? 9).map (fun i => (i.zero, i.size, i.bytes)) = some (some (.string ⟨#[]⟩), 1, 16) := by kernel_rfl
def OwnS (w : World) (B : Nat) (v : Value) (ss : List ByteArray) : Prop := w.ownsRow B 9 1 v ss.length (ss.map Value.string)
theorem OwnS.nil (w : World) (B : Nat) : OwnS w B (.slice none 0 0) [] := World.ownsRow_nil w B _ 1
theorem OwnS.row {w : World} {B : Nat} {v : Value} {ss : List ByteArray} (h : OwnS w B v ss) : ∃ p c, v = .slice p ss.length c ∧ ss.length ≤ c ∧ (p = none → c = 0) ∧ Strs w p ss := by
  obtain ⟨h1, ⟨rfl, h0⟩ | ⟨g, cap, cur, rfl, hg, hh, hc, hm, hs, ht⟩⟩ := h
  · have : ss = [] := List.eq_nil_of_length_eq_zero h0
    subst this
    exact ⟨none, 0, rfl, Nat.le_refl _, fun _ => rfl, Or.inl rfl⟩
  · refine ⟨_, cap, rfl, hc, (fun h => by cases h), Or.inr ⟨g, 0, rfl, (Array.getElem?_eq_some_iff.1 hh).1, fun j hj => ?_⟩⟩
    have e1 : cur[j]? = some (.string (ss.getD j ByteArray.empty)) := by
      have := congrArg (·[j]?) ht
      simp only [Nat.mul_one, List.getElem?_take, hj, if_true, Array.getElem?_toList, List.getElem?_map] at this
      rw [this]
      simp [List.getD, hj]
    simp only [World.cell?, hh, Nat.zero_add]
    exact e1
theorem OwnS.alloc {w : World} {B : Nat} {v : Value} {ss : List ByteArray} (h : OwnS w B v ss) (o : Obj) : OwnS (w.alloc o) B v ss := World.ownsRow.alloc h o
theorem OwnS.lt {w : World} {B : Nat} {v : Value} {ss : List ByteArray} (h : OwnS w B v ss) : ∀ g, v.ownBlock = some g → B ≤ g := fun g hg => (World.ownsRow.lt h g hg).1
theorem ownS_one (w : World) (B : Nat) (hB : B ≤ w.heap.size) (s : ByteArray) : OwnS (w.alloc (.cells #[.string s] 9)) B (.slice (some ⟨w.heap.size, 0, none⟩) 1 1) [s] :=
  ⟨rfl, Or.inr ⟨w.heap.size, 1, #[.string s], rfl, hB, by show (w.heap.push _)[w.heap.size]? = _; simp, Nat.le_refl _, by unfold maxLen; omega, rfl, rfl⟩⟩
theorem wpList_app_str {w : World} {ops : Array Oper} {rest : List Oper} {o : Oper} {a : Act} {Q : Exit → Act → World → Prop}
    (hg : o.guard = none) (s x : Operand) (hop : o.op = Op.call { callee := Callee.builtin Builtin.append, args := #[s, x], argTypes := #[22, 22] })
    (B : Nat) (v : Value) (ss : List ByteArray) (hs : a.eval s = v) (hown : OwnS w B v ss)
    (ad : Addr) (c : Nat) (ys : List ByteArray) (hx : a.eval x = .slice (some ad) ys.length c) (hrow : Strs w (some ad) ys) (hlen : ss.length + ys.length ≤ 1000000000000) (hB : B ≤ w.heap.size)
    (hK : ∀ v' w', OwnS w' B v' (ss ++ ys) → w.grownBy w' v.ownBlock → wpList Try.prog ops Q rest (a.put o.dst v') w') :
    wpList Try.prog ops Q (o :: rest) a w := by
  obtain ⟨i0, hi, hz0, hz1, hz2⟩ := info_parts info_str
  refine wpList_append_own w hg s x 22 hop B 9 i0 (.string ⟨#[]⟩) 1 16 Try.underlying22 hi hz0 hz1 hz2 rfl (by decide) v ss.length (ss.map Value.string) hs hown ad ys.length c (ys.map Value.string) hx (by simp) ?_ ?_ (by unfold maxLen; omega) (by omega) hB ?_
  · intro j u hj
    obtain ⟨hj', rfl⟩ := List.getElem?_eq_some_iff.1 hj
    simp only [List.length_map] at hj'
    rcases hrow with h | ⟨b, off, hp', _, hc⟩
    · rw [h] at hj'; simp at hj'
    · cases hp'
      rw [Addr.add_lit, hc j hj']
      simp [List.getD, hj']
  · intro u hu
    obtain ⟨y, _, rfl⟩ := List.mem_map.1 hu
    rfl
  · intro v' w' ho hgr _
    refine hK v' w' ?_ hgr
    unfold OwnS
    rw [List.length_append, List.map_append]
    exact ho
theorem strs_one {w : World} {g : Nat} {s : ByteArray} (h : w.cell? ⟨g, 0, none⟩ = some (.string s)) : Strs w (some ⟨g, 0, none⟩) [s] :=
  Or.inr ⟨g, 0, rfl, World.block_lt_of_cell? w _ h, fun j hj => by
    obtain rfl : j = 0 := by simpa using hj
    exact h⟩

theorem OwnS.below {w w' : World} {B : Nat} {v : Value} {ss : List ByteArray} (h : OwnS w B v ss) (hb : Below w.heap.size w w') : OwnS w' B v ss := by
  obtain ⟨h1, h2⟩ := h
  refine ⟨h1, ?_⟩
  rcases h2 with h2 | ⟨g, cap, cur, e, hg, hh, hc, hm, hs, ht⟩
  · exact Or.inl h2
  · exact Or.inr ⟨g, cap, cur, e, hg, by rw [hb.block g (Array.getElem?_eq_some_iff.1 hh).1]; exact hh, hc, hm, hs, ht⟩
theorem OwnS.chg {w w' : World} {B g : Nat} {v : Value} {ss : List ByteArray} (h : OwnS w B v ss) (hc : Chg g w w') (hg : g < B) : OwnS w' B v ss := by
  obtain ⟨h1, h2⟩ := h
  refine ⟨h1, ?_⟩
  rcases h2 with h2 | ⟨k, cap, cur, e, hk, hh, hcc, hm, hs, ht⟩
  · exact Or.inl h2
  · exact Or.inr ⟨k, cap, cur, e, hk, by rw [hc.block k (Array.getElem?_eq_some_iff.1 hh).1 (by omega)]; exact hh, hcc, hm, hs, ht⟩

theorem weights_mem {H : Type} (P : Program) (e : TypeId) {d : DataW H} {x : Nat} : ∀ (l : List (DataW H)), d ∈ l → x ∈ d.weights P e → x ∈ DataW.weightsAll P e l
  | [], h, _ => by cases h
  | c :: l, h, hx => by
    unfold DataW.weightsAll
    rcases List.mem_cons.1 h with rfl | h
    · exact List.mem_append_left _ hx
    · exact List.mem_append_right _ (weights_mem P e l h hx)
/-- an argument that is a list of texts, each within the form's reach. -/
theorem arg_texts {H : Type} {enc : TypeId × Value → H} {P : Program} {W : World} {b0 : Nat} {t e : TypeId} {v : Value} {d : DataW H} {ps : List MemPlace} (ht : P.underlying t = some (.slice e)) (he : P.underlying e = some .string) (hc : P.cellsOf e = 1)
    (hval : Value.okWide P W .any b0 t v) (hd : DataW.Trod enc P W 0 (fun _ => true) true t v d ps) (hw : (d.weights P t).all (· ≤ reachBytes) = true) :
    ∃ (p : Option Addr) (ls : List (List UInt8)) (c : Nat), v = .slice p ls.length c ∧ Strs W p (ls.map strB) ∧ ls.length ≤ 9223372036854775807 ∧ ∀ l ∈ ls, l.length ≤ 140737488351232 := by
  obtain ⟨a0, len, cap, rfl⟩ := okWide_slice ht hval
  obtain ⟨fuel, hf⟩ := hd
  rcases open_slice ht hf with ⟨h, _⟩ | ⟨a, len', cap', m, n, D, Pl, h, hdd, hl, hm, hmm, hdl, hi⟩
  · simp [Value.cells] at h
    obtain ⟨rfl, rfl, rfl⟩ := h
    exact ⟨none, [], 0, rfl, Or.inl rfl, by simp, by simp⟩
  · simp [Value.cells] at h
    obtain ⟨rfl, rfl, rfl⟩ := h
    simp only [if_true] at hmm
    subst hmm
    have hm2 := hm
    unfold maxLen at hm2
    injection hdl with hdl _
    subst hdl
    have each : ∀ i, i < len → ∃ s : List UInt8, W.cell? (a.add i) = some (.string (strB s)) ∧ s.length ≤ 140737488351232 := fun i hin => by
      obtain ⟨cs', hcs, htr⟩ := hi i (by omega)
      rw [hc] at hcs
      obtain ⟨hl1, _, hat⟩ := World.cells?_some hcs
      match cs', hl1 with
      | [v], _ =>
        obtain ⟨s, hs, hx, _⟩ := DataW.trod_string he htr
        injection hs with hs _
        subst hs
        injection hx with hx _
        have h0 := hat 0 (by omega)
        simp at h0
        refine ⟨s.data.toList, by rw [strB_of]; simpa [Addr.add] using h0, ?_⟩
        have hmem : s.data.toList.length ∈ DataW.weights P t (.slice ((List.range len).map D) ((List.range (m - len)).map fun j => D (len + j))) := by
          unfold DataW.weights
          rw [ht]
          refine List.mem_cons_of_mem _ (List.mem_append_left _ (weights_mem P e _ (List.mem_map.2 ⟨i, List.mem_range.2 hin, rfl⟩) ?_))
          rw [hx]
          unfold DataW.weights
          simp
        have := of_decide_eq_true (List.all_eq_true.1 hw _ hmem)
        unfold reachBytes at this
        omega
    have pick : ∃ f : Nat → List UInt8, ∀ i, i < len → W.cell? (a.add i) = some (.string (strB (f i))) ∧ (f i).length ≤ 140737488351232 :=
      ⟨fun i => if h : i < len then Classical.choose (each i h) else default, fun i h => by simp only [dif_pos h]; exact Classical.choose_spec (each i h)⟩
    obtain ⟨f, hf2⟩ := pick
    have hget : ∀ j, j < len → (((List.range len).map f).map strB).getD j ByteArray.empty = strB (f j) := fun j hj => by simp [List.getD, hj]
    refine ⟨some a, (List.range len).map f, m, by simp, ?_, by simp; omega, fun x hx => ?_⟩
    · by_cases h0 : len = 0
      · exact Or.inl (by subst h0; rfl)
      · have hc0 := (hf2 0 (by omega)).1
        obtain ⟨b, off, spot⟩ := a
        have hsp : spot = none := Go.Proofs.cell_spot (o := off + 0) hc0
        subst hsp
        refine Or.inr ⟨b, off, rfl, World.block_lt_of_cell? W _ hc0, fun j hj => ?_⟩
        have hj' : j < len := by simpa using hj
        rw [hget j hj']
        have := (hf2 j hj').1
        rw [Addr.add_lit] at this
        exact this
    · obtain ⟨i, hi', rfl⟩ := List.mem_map.1 hx
      exact (hf2 i (List.mem_range.1 hi')).2
end Go.Proofs.Ytkidahlhnhglfaa
