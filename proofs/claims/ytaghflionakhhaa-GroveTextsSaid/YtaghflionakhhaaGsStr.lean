/-
  Texts: their order; rows of texts, read and of the call's own; appends and cuts of them; an argument that is a row of texts.
-/
import Derived.Lib.MinMaxS
import Derived.WalkLawsBesides
import Derived.Maps.AppendAt
import Derived.WalkSpells
import Derived.SizedLaws
import Derived.Test.YtaghflionakhhaaGvArgs
import Derived.Test.YtaghflionakhhaaRegInv
namespace Go.Gz
def slt (a b : ByteArray) : Bool := Op.bytesLess a.toList b.toList
theorem slt_eq (a b : ByteArray) : slt a b = decide (a.data.toList < b.data.toList) := by
  unfold slt; rw [Go.Proofs.bytesLess_eq, Lib.toList_data, Lib.toList_data]
theorem data_inj {a b : ByteArray} (h : a.data.toList = b.data.toList) : a = b := by
  cases a; cases b
  simp only [ByteArray.mk.injEq]
  exact Array.toList_inj.1 h
theorem slt_irrefl (a : ByteArray) : slt a a = false := by
  rw [slt_eq]; exact decide_eq_false (List.lt_irrefl _)
theorem slt_trans {a b c : ByteArray} (h : slt a b = true) (k : slt b c = true) : slt a c = true := by
  rw [slt_eq] at h k ⊢
  exact decide_eq_true (List.lt_trans (of_decide_eq_true h) (of_decide_eq_true k))
theorem slt_total {a b : ByteArray} (h : slt a b = false) (k : slt b a = false) : a = b := by
  rw [slt_eq] at h k
  exact data_inj (List.le_antisymm (of_decide_eq_false k) (of_decide_eq_false h))
end Go.Gz
namespace Go.Proofs.Ytaghflionakhhaa
open Go.RowKit Go.ChangeShapes Go.WideShapes Go.Gz Go.Deep
def Strs (w : World) (p : Option Addr) (ss : List ByteArray) : Prop :=
  ss = [] ∨ ∃ b off, p = some ⟨b, off, none⟩ ∧ b < w.heap.size ∧ ∀ j, j < ss.length → w.cell? ⟨b, off + j, none⟩ = some (.string (ss.getD j ByteArray.empty))
theorem Strs.below {w w' : World} {p : Option Addr} {ss : List ByteArray} (h : Strs w p ss) (hb : Below w.heap.size w w') : Strs w' p ss := by
  rcases h with h | ⟨b, off, hp, hlt, hc⟩
  · exact Or.inl h
  · exact Or.inr ⟨b, off, hp, Nat.lt_of_lt_of_le hlt hb.size, fun j hj => by rw [hb.cell (p := ⟨b, off + j, none⟩) hlt]; exact hc j hj⟩
theorem str_cell {W wr : World} {p : Option Addr} {ss : List ByteArray} (h : Strs W p ss) (hb : Below W.heap.size W wr) {j : Nat} (hj : j < ss.length) : ∃ b o, p = some ⟨b, o, none⟩ ∧ b < W.heap.size ∧ wr.cell? ⟨b, o + j, none⟩ = some (.string (ss.getD j ByteArray.empty)) := by
  rcases h with h | ⟨b, o, hp, h1, h2⟩
  · rw [h] at hj; simp at hj
  · exact ⟨b, o, hp, h1, by rw [hb.cell (p := ⟨b, o + j, none⟩) h1]; exact h2 j hj⟩
theorem one_string {H : Type} {enc : TypeId × Value → H} {P : Program} {W : World} {t : TypeId} {fuel : Nat} {v : Value} {x : DataW H × List MemPlace} (ht : P.underlying t = some .string) (h : DataW.trod enc P W 0 (fun _ => true) true fuel t [v] = some x) : ∃ s : ByteArray, v = .string s ∧ s.size ≤ 9223372036854775807 := by
  cases fuel with
  | zero => simp [DataW.trod] at h
  | succ n =>
    unfold DataW.trod at h
    rw [ht] at h
    split at h <;> simp_all
    unfold maxLen at h
    exact h.1
theorem arg_strs {H : Type} {enc : TypeId × Value → H} {P : Program} {W : World} {b0 : Nat} {t e : TypeId} {v : Value} {d : DataW H} {ps : List MemPlace} (ht : P.underlying t = some (.slice e)) (he : P.underlying e = some .string) (hc : P.cellsOf e = 1)
    (hval : Value.okWide P W .any b0 t v) (hd : DataW.Trod enc P W 0 (fun _ => true) true t v d ps) :
    ∃ p ss c, v = .slice p ss.length c ∧ Strs W p ss ∧ ss.length ≤ 9223372036854775807 ∧ ∀ s ∈ ss, s.size ≤ 9223372036854775807 := by
  obtain ⟨a0, len, cap, rfl⟩ := okWide_slice ht hval
  obtain ⟨fuel, hf⟩ := hd
  rcases open_slice ht hf with ⟨h, _⟩ | ⟨a, len', cap', m, n, D, Pl, h, _, hl, hm, hmm, _, hi⟩
  · simp [Value.cells] at h
    obtain ⟨rfl, rfl, rfl⟩ := h
    exact ⟨none, [], 0, rfl, Or.inl rfl, by simp, by simp⟩
  · simp [Value.cells] at h
    obtain ⟨rfl, rfl, rfl⟩ := h
    simp only [if_true] at hmm
    subst hmm
    unfold maxLen at hm
    have each : ∀ i, i < len → ∃ s : ByteArray, W.cell? (a.add i) = some (.string s) ∧ s.size ≤ 9223372036854775807 := fun i hin => by
      obtain ⟨cs', hcs, htr⟩ := hi i (by omega)
      rw [hc] at hcs
      obtain ⟨hl1, _, hat⟩ := World.cells?_some hcs
      match cs', hl1 with
      | [v], _ =>
        obtain ⟨s, rfl, hs⟩ := one_string he htr
        have := hat 0 (by omega)
        simp at this
        exact ⟨s, by simpa [Addr.add] using this, hs⟩
    have pick : ∃ f : Nat → ByteArray, ∀ i, i < len → W.cell? (a.add i) = some (.string (f i)) ∧ (f i).size ≤ 9223372036854775807 :=
      ⟨fun i => if h : i < len then Classical.choose (each i h) else default, fun i h => by simp only [dif_pos h]; exact Classical.choose_spec (each i h)⟩
    obtain ⟨f, hf2⟩ := pick
    have hget : ∀ j, j < len → ((List.range len).map f).getD j ByteArray.empty = f j := fun j hj => by simp [List.getD, hj]
    refine ⟨some a, (List.range len).map f, m, by simp, ?_, by simp; omega, fun x hx => ?_⟩
    · by_cases h0 : len = 0
      · exact Or.inl (by subst h0; rfl)
      · have hc0 := (hf2 0 (by omega)).1
        obtain ⟨b, off, spot⟩ := a
        have hsp : spot = none := Go.Proofs.cell_spot (o := off + 0) hc0
        subst hsp
        refine Or.inr ⟨b, off, rfl, World.block_lt_of_cell? W _ hc0, fun j hj => ?_⟩
        have hj' : j < len := by simpa using hj
        rw [hget j hj']
        have := (hf2 j hj').1
        rw [Addr.add_lit] at this
        exact this
    · obtain ⟨i, hi', rfl⟩ := List.mem_map.1 hx
      exact (hf2 i (List.mem_range.1 hi')).2
theorem info_str : (Try.prog.info? 9).map (fun i => (i.zero, i.size, i.bytes)) = some (some (.string ⟨#[]⟩), 1, 16) := by kernel_rfl
def OwnS (w : World) (B : Nat) (v : Value) (ss : List ByteArray) : Prop := w.ownsRow B 9 1 v ss.length (ss.map Value.string)
theorem OwnS.nil (w : World) (B : Nat) : OwnS w B (.slice none 0 0) [] := World.ownsRow_nil w B _ 1
theorem OwnS.row {w : World} {B : Nat} {v : Value} {ss : List ByteArray} (h : OwnS w B v ss) : ∃ p c, v = .slice p ss.length c ∧ ss.length ≤ c ∧ (p = none → c = 0) ∧ Strs w p ss := by
  obtain ⟨h1, ⟨rfl, h0⟩ | ⟨g, cap, cur, rfl, hg, hh, hc, hm, hs, ht⟩⟩ := h
  · have : ss = [] := List.eq_nil_of_length_eq_zero h0
    subst this
    exact ⟨none, 0, rfl, Nat.le_refl _, fun _ => rfl, Or.inl rfl⟩
  · refine ⟨_, cap, rfl, hc, (fun h => by cases h), Or.inr ⟨g, 0, rfl, (Array.getElem?_eq_some_iff.1 hh).1, fun j hj => ?_⟩⟩
    have e1 : cur[j]? = some (.string (ss.getD j ByteArray.empty)) := by
      have := congrArg (·[j]?) ht
      simp only [Nat.mul_one, List.getElem?_take, hj, if_true, Array.getElem?_toList, List.getElem?_map] at this
      rw [this]
      simp [List.getD, hj]
    simp only [World.cell?, hh, Nat.zero_add]
    exact e1
theorem OwnS.alloc {w : World} {B : Nat} {v : Value} {ss : List ByteArray} (h : OwnS w B v ss) (o : Obj) : OwnS (w.alloc o) B v ss := World.ownsRow.alloc h o
theorem OwnS.lt {w : World} {B : Nat} {v : Value} {ss : List ByteArray} (h : OwnS w B v ss) : ∀ g, v.ownBlock = some g → B ≤ g := fun g hg => (World.ownsRow.lt h g hg).1
theorem ownS_one (w : World) (B : Nat) (hB : B ≤ w.heap.size) (s : ByteArray) : OwnS (w.alloc (.cells #[.string s] 9)) B (.slice (some ⟨w.heap.size, 0, none⟩) 1 1) [s] :=
  ⟨rfl, Or.inr ⟨w.heap.size, 1, #[.string s], rfl, hB, by show (w.heap.push _)[w.heap.size]? = _; simp, Nat.le_refl _, by unfold maxLen; omega, rfl, rfl⟩⟩
theorem wpList_app_str {w : World} {ops : Array Oper} {rest : List Oper} {o : Oper} {a : Act} {Q : Exit → Act → World → Prop}
    (hg : o.guard = none) (s x : Operand) (hop : o.op = Op.call { callee := Callee.builtin Builtin.append, args := #[s, x], argTypes := #[35, 35] })
    (B : Nat) (v : Value) (ss : List ByteArray) (hs : a.eval s = v) (hown : OwnS w B v ss)
    (ad : Addr) (c : Nat) (ys : List ByteArray) (hx : a.eval x = .slice (some ad) ys.length c) (hrow : Strs w (some ad) ys) (hlen : ss.length + ys.length ≤ 1000000) (hB : B ≤ w.heap.size)
    (hK : ∀ v' w', OwnS w' B v' (ss ++ ys) → w.grownBy w' v.ownBlock → wpList Try.prog ops Q rest (a.put o.dst v') w') :
    wpList Try.prog ops Q (o :: rest) a w := by
  obtain ⟨i0, hi, hz0, hz1, hz2⟩ := info_parts info_str
  refine wpList_append_own w hg s x 35 hop B 9 i0 (.string ⟨#[]⟩) 1 16 Try.underlying35 hi hz0 hz1 hz2 rfl (by decide) v ss.length (ss.map Value.string) hs hown ad ys.length c (ys.map Value.string) hx (by simp) ?_ ?_ (by unfold maxLen; omega) (by omega) hB ?_
  · intro j u hj
    obtain ⟨hj', rfl⟩ := List.getElem?_eq_some_iff.1 hj
    simp only [List.length_map] at hj'
    rcases hrow with h | ⟨b, off, hp', _, hc⟩
    · rw [h] at hj'; simp at hj'
    · cases hp'
      rw [Addr.add_lit, hc j hj']
      simp [List.getD, hj']
  · intro u hu
    obtain ⟨y, _, rfl⟩ := List.mem_map.1 hu
    rfl
  · intro v' w' ho hgr _
    refine hK v' w' ?_ hgr
    unfold OwnS
    rw [List.length_append, List.map_append]
    exact ho
theorem strs_take {w : World} {p : Option Addr} {ss : List ByteArray} (h : Strs w p ss) (k : Nat) : Strs w p (ss.take k) := by
  rcases h with h | ⟨b, o, hp, hl, hc⟩
  · exact Or.inl (by rw [h, List.take_nil])
  · exact Or.inr ⟨b, o, hp, hl, fun j hj => by
      rw [List.length_take] at hj
      rw [hc j (by omega)]
      simp [List.getD, show j < k by omega]⟩
theorem strs_drop {w : World} {b o : Nat} {ss : List ByteArray} (h : Strs w (some ⟨b, o, none⟩) ss) (k : Nat) : Strs w (some ⟨b, o + k, none⟩) (ss.drop k) := by
  rcases h with h | ⟨b', o', hp, hl, hc⟩
  · exact Or.inl (by rw [h, List.drop_nil])
  · injection hp with hp
    injection hp with h1 h2
    subst h1; subst h2
    refine Or.inr ⟨b, o + k, rfl, hl, fun j hj => ?_⟩
    rw [List.length_drop] at hj
    rw [show o + k + j = o + (k + j) by omega, hc (k + j) (by omega)]
    simp [List.getD, List.getElem?_drop]
theorem slice_lo (pa : Option Addr) (m ca kk : Nat) (h : kk ≤ m) (hm : m ≤ ca) (hp : pa = none → ca = 0) (o : Oper) (a : Act) (w : World) (x k : Tmp) (ho : o.op = Op.slice 35 (.tmp x) none (some (.tmp k)) none) (h1 : a.tmps.getD x undef = .slice pa m ca) (h2 : a.tmps.getD k undef = .int .i64 kk) :
    (execOp a.eval o).run Try.prog w = .ok (.value (.slice pa kk ca)) w := by
  have e1 : (kk : Int) ≤ (m : Int) := by omega
  have e2 : (m : Int) ≤ (ca : Int) := by omega
  have e0 : (0 : Int) ≤ (kk : Int) := by omega
  have e3 : (kk : Int) ≤ (ca : Int) := by omega
  unfold execOp
  rw [ho]
  cases pa with
  | none =>
    obtain rfl := hp rfl
    obtain rfl : m = 0 := by omega
    obtain rfl : kk = 0 := by omega
    go_simp
  | some ad =>
    go_simp
def hiP (pa : Option Addr) (ca kk : Nat) : Option Addr := match pa with | none => none | some ad => some (if kk = ca then ad else ad.add kk)
theorem strs_hi {w : World} {pa : Option Addr} {ss : List ByteArray} {ca kk : Nat} (h : Strs w pa ss) (hl : ss.length ≤ ca) : Strs w (hiP pa ca kk) (ss.drop kk) := by
  cases pa with
  | none =>
    rcases h with h | ⟨b, o, hp, _⟩
    · exact Or.inl (by rw [h, List.drop_nil])
    · cases hp
  | some ad =>
    rcases h with h0 | ⟨b, o, hp, hlt, hc⟩
    · exact Or.inl (by rw [h0, List.drop_nil])
    · injection hp with hp
      subst hp
      unfold hiP
      by_cases e : kk = ca
      · simp only [if_pos e]
        exact Or.inl (by rw [List.drop_eq_nil_iff]; omega)
      · simp only [if_neg e, Addr.add_lit]
        exact strs_drop (Or.inr ⟨b, o, rfl, hlt, hc⟩) kk
theorem slice_hi (pa : Option Addr) (m ca kk : Nat) (h : kk ≤ m) (hm : m ≤ ca) (hp : pa = none → ca = 0) (o : Oper) (a : Act) (w : World) (x k : Tmp) (ho : o.op = Op.slice 35 (.tmp x) (some (.tmp k)) none none) (h1 : a.tmps.getD x undef = .slice pa m ca) (h2 : a.tmps.getD k undef = .int .i64 kk) :
    (execOp a.eval o).run Try.prog w = .ok (.value (.slice (hiP pa ca kk) (m - kk) (ca - kk))) w := by
  have e1 : (kk : Int) ≤ (m : Int) := by omega
  have e2 : (m : Int) ≤ (ca : Int) := by omega
  have e0 : (0 : Int) ≤ (kk : Int) := by omega
  have e3 : (kk : Int) ≤ (ca : Int) := by omega
  unfold execOp hiP
  rw [ho]
  cases pa with
  | none =>
    obtain rfl := hp rfl
    obtain rfl : m = 0 := by omega
    obtain rfl : kk = 0 := by omega
    go_simp
  | some ad =>
    by_cases e : kk = ca
    · obtain rfl : m = ca := by omega
      subst e
      go_simp
    · go_simp
      exact fun h => absurd h.symm e
def insL (ss : List ByteArray) (c : ByteArray) (k : Nat) : List ByteArray := ss.take k ++ [c] ++ ss.drop k
theorem insL_len (ss : List ByteArray) (c : ByteArray) (k : Nat) (hk : k ≤ ss.length) : (insL ss c k).length = ss.length + 1 := by
  simp [insL]; omega
theorem stepI_app_str {ops : Array Oper} {Q : Exit → Act → World → Prop} {i : Nat} {o : Oper} {a : Act} {w : World} {J : Value → World → Prop} (hgd : o.guard = none) (s x : Operand)
    (ho : o.op = .call { callee := .builtin .append, args := #[s, x], argTypes := #[35, 35] })
    (B : Nat) (v : Value) (ss : List ByteArray) (hs : a.eval s = v) (hown : OwnS w B v ss)
    (p : Option Addr) (c : Nat) (ys : List ByteArray) (hx : a.eval x = .slice p ys.length c) (hrow : Strs w p ys) (hpc : p = none → c = 0) (hlen : ss.length + ys.length ≤ 1000000) (hB : B ≤ w.heap.size)
    (hJ : ∀ v' w', OwnS w' B v' (ss ++ ys) → w.grownBy w' v.ownBlock → (v'.ownBlock = v.ownBlock ∨ v'.ownBlock = some w.heap.size) → J v' w') : StepI Try.prog ops Q i o a w J := by
  obtain ⟨i0, hi, hz0, hz1, hz2⟩ := info_parts info_str
  cases p with
  | none =>
    obtain rfl : ys = [] := by
      rcases hrow with h | ⟨b, off, hp', _⟩
      · exact h
      · cases hp'
    obtain rfl := hpc rfl
    have hrun := run_append_owned_none (P := Try.prog) (w := w) B 35 o.type 9 i0 1 Try.underlying35 hi v ss.length (ss.map Value.string) hown
    have hx' : a.eval x = .slice none 0 0 := hx
    refine step_run hgd (v := v) (w' := w) ?_ (hJ v w (by rw [List.append_nil]; exact hown) (World.grownBy.refl _ _) (Or.inl rfl))
    simp [execOp, ho, resolve, invoke, builtin, hs, hx', hrun, Result.andThen]
  | some ad =>
    obtain ⟨v', w', hr, h2, h3, _, h5⟩ := run_append_own_at (P := Try.prog) (w := w) B 35 o.type 9 i0 (.string ⟨#[]⟩) 1 16 Try.underlying35 hi hz0 hz1 hz2 rfl (by decide) v ss.length (ss.map Value.string) hown ad ys.length c (ys.map Value.string) (by simp) (by
      intro j u hj
      obtain ⟨hj', rfl⟩ := List.getElem?_eq_some_iff.1 hj
      simp only [List.length_map] at hj'
      rcases hrow with h | ⟨b, off, hp', _, hc⟩
      · rw [h] at hj'; simp at hj'
      · cases hp'
        rw [Addr.add_lit, hc j hj']
        simp [List.getD, hj']) (by
      intro u hu
      obtain ⟨y, _, rfl⟩ := List.mem_map.1 hu
      rfl) (by unfold maxLen; omega) (by omega) hB
    refine step_run hgd (v := v') (w' := w') ?_ (hJ v' w' (by unfold OwnS; rw [List.length_append, List.map_append]; exact h2) h3 h5)
    simp [execOp, ho, resolve, invoke, builtin, hs, hx, hr, Result.andThen]
structure InsI (w0 : World) (AT CU S1 S2 : Value) (ad : Addr) (k i : Nat) (ss : List ByteArray) (ct : ByteArray) (L : Nat → Bool) (vals : Nat → Value) (w : World) : Prop where
  bel : Below w0.heap.size w0 w
  a0 : L 0 = true → L 4 = false → OwnS w w0.heap.size (vals 0) []
  a1 : L 1 = true → vals 1 = AT
  a2 : L 2 = true → vals 2 = .int .i64 k
  a3 : L 3 = true → vals 3 = S1
  a4 : L 4 = true → L 10 = false → OwnS w w0.heap.size (vals 4) (ss.take k)
  a5 : L 5 = true → vals 5 = CU
  a6 : L 6 = true → vals 6 = .int .i64 i
  a7 : L 7 = true → vals 7 = .pointer (some ad)
  a8 : L 8 = true → vals 8 = .string ct
  a9 : L 9 = true → L 10 = false → ∃ g, vals 9 = .slice (some ⟨g, 0, none⟩) 1 1 ∧ g < w.heap.size ∧ w.cell? ⟨g, 0, none⟩ = some (.string ct) ∧ (L 0 = true → L 4 = false → (vals 0).ownBlock ≠ some g) ∧ (L 4 = true → (vals 4).ownBlock ≠ some g)
  a10 : L 10 = true → L 14 = false → OwnS w w0.heap.size (vals 10) (ss.take k ++ [ct])
  a11 : L 11 = true → vals 11 = AT
  a12 : L 12 = true → vals 12 = .int .i64 k
  a13 : L 13 = true → vals 13 = S2
  a14 : L 14 = true → OwnS w w0.heap.size (vals 14) (insL ss ct k)
  a15 : L 15 = true → vals 15 = vals 14
  d4 : L 4 = true → L 0 = true
  d9 : L 10 = true → L 9 = true
  d10 : L 10 = true → L 4 = true
  d14 : L 14 = true → L 10 = true
  d15 : L 15 = true → L 1 = true ∧ L 11 = true ∧ L 14 = true
theorem no_of {a b : Bool} (h : a = true → b = true) (hb : b = false) : a = false := by
  cases a with
  | false => rfl
  | true => rw [h rfl] at hb; cases hb
theorem strs_one {w : World} {g : Nat} {s : ByteArray} (h : w.cell? ⟨g, 0, none⟩ = some (.string s)) : Strs w (some ⟨g, 0, none⟩) [s] :=
  Or.inr ⟨g, 0, rfl, World.block_lt_of_cell? w _ h, fun j hj => by
    obtain rfl : j = 0 := by simpa using hj
    exact h⟩
theorem ownS_made (w : World) (B : Nat) (hB : B ≤ w.heap.size) : OwnS (w.alloc (.cells #[] 9)) B (.slice (some ⟨w.heap.size, 0, none⟩) 0 0) [] :=
  World.ownsRow_made w #[] 0 hB (by unfold maxLen; omega) rfl
end Go.Proofs.Ytaghflionakhhaa
