/-
  Rows of structs written over in place: copy, clear, append within room; append of zeros onto a row without room.
-/
import Derived.Test.YtodcnemnajlbdaaStRow
import Derived.Laws.CopyOwn
import Derived.Lib.AppendZerosOnto
namespace Go.Gz
open Go.RowKit

section
variable {β : Type} {X : List β} {o q : Nat} {cs : List β}
theorem splice_take (h : q ≤ o) (ho : o ≤ X.length) : (splice X o cs).take q = X.take q := by
  unfold splice
  rw [List.take_append_of_le_length (by rw [List.length_take]; omega), List.take_take, Nat.min_eq_left h]
theorem splice_take_end (ho : o ≤ X.length) : (splice X o cs).take (o + cs.length) = X.take o ++ cs := by
  unfold splice
  rw [← List.append_assoc, List.take_append_of_le_length (by rw [List.length_append, List.length_take]; omega), List.take_of_length_le (by rw [List.length_append, List.length_take]; omega)]
theorem splice_drop (h : o + cs.length ≤ q) (ho : o ≤ X.length) : (splice X o cs).drop q = X.drop q := by
  unfold splice
  rw [← List.append_assoc, List.drop_append, List.drop_of_length_le (by rw [List.length_append, List.length_take]; omega), List.nil_append, List.drop_drop, List.length_append, List.length_take]
  congr 1
  omega
theorem splice_drop_at (ho : o ≤ X.length) : ((splice X o cs).drop o).take cs.length = cs := by
  unfold splice
  rw [List.drop_append_of_le_length (by rw [List.length_take]; omega), List.drop_of_length_le (by rw [List.length_take]; omega), List.nil_append]
  simp
theorem splice_get (h : o + cs.length ≤ q) (ho : o ≤ X.length) : (splice X o cs)[q]? = X[q]? := by
  have := congrArg (fun l => l[0]?) (splice_drop (X := X) (cs := cs) h ho)
  simpa using this
theorem splice_nil : splice X o [] = X := by unfold splice; simp
end

section
variable {α : Type} {K : SK α}
theorem SK.flat_drop (K : SK α) (L : List α) (j : Nat) : K.flat (L.drop j) = (K.flat L).drop (j * K.n) := by
  by_cases h : j ≤ L.length
  · have e : K.flat L = K.flat (L.take j) ++ K.flat (L.drop j) := by rw [← K.flat_app, List.take_append_drop]
    have l : (K.flat (L.take j)).length = j * K.n := by rw [K.flat_len, List.length_take, Nat.min_eq_left h]
    rw [e]
    generalize K.flat (L.take j) = A at l ⊢
    generalize K.flat (L.drop j) = D
    rw [List.drop_append_of_le_length (by rw [l]; exact Nat.le_refl _), List.drop_of_length_le (by rw [l]; exact Nat.le_refl _), List.nil_append]
  · rw [List.drop_of_length_le (by omega), List.drop_of_length_le (by rw [K.flat_len]; exact Nat.mul_le_mul_right _ (by omega))]
    rfl
theorem SK.flat_take (K : SK α) (L : List α) (j : Nat) : K.flat (L.take j) = (K.flat L).take (j * K.n) := by
  by_cases h : j ≤ L.length
  · have e : K.flat L = K.flat (L.take j) ++ K.flat (L.drop j) := by rw [← K.flat_app, List.take_append_drop]
    have l : (K.flat (L.take j)).length = j * K.n := by rw [K.flat_len, List.length_take, Nat.min_eq_left h]
    rw [e]
    generalize K.flat (L.take j) = A at l ⊢
    generalize K.flat (L.drop j) = D
    rw [List.take_append_of_le_length (by rw [l]; exact Nat.le_refl _), List.take_of_length_le (by rw [l]; exact Nat.le_refl _)]
  · rw [List.take_of_length_le (by omega), List.take_of_length_le (by rw [K.flat_len]; exact Nat.mul_le_mul_right _ (by omega))]
/-- a row of one's own, as cells. -/
theorem OwnK.buf {w : World} {B : Nat} {t : TypeId} {v : Value} {L : List α} (h : OwnK K w B t v L) (h0 : 0 < L.length) : ∃ g c X, v = .slice (some ⟨g, 0, none⟩) L.length c ∧ B ≤ g ∧ w.heap[g]? = some (.cells (List.toArray X) t (0, 0)) ∧ L.length ≤ c ∧ c ≤ maxLen ∧ X.length = c * K.n ∧ X.take (L.length * K.n) = K.flat L := by
  obtain ⟨_, ⟨_, e⟩ | ⟨g, c, cur, rfl, hg, hh, hc, hm, hs, ht⟩⟩ := h
  · omega
  · exact ⟨g, c, cur.toList, rfl, hg, by simpa using hh, hc, hm, by simpa using hs, ht⟩
theorem OwnK.of_buf {w : World} {B g c : Nat} {t : TypeId} {L : List α} {X : List Value} (hg : B ≤ g) (hh : w.heap[g]? = some (.cells X.toArray t (0, 0))) (hc : L.length ≤ c) (hm : c ≤ maxLen) (hs : X.length = c * K.n) (ht : X.take (L.length * K.n) = K.flat L) : OwnK K w B t (.slice (some ⟨g, 0, none⟩) L.length c) L :=
  ⟨K.flat_len L, Or.inr ⟨g, c, X.toArray, rfl, hg, hh, hc, hm, by simpa using hs, by simpa using ht⟩⟩
/-- .. a part of its beginning. -/
theorem OwnK.cut {w : World} {B : Nat} {t : TypeId} {g n c : Nat} {L : List α} (h : OwnK K w B t (.slice (some ⟨g, 0, none⟩) n c) L) (k : Nat) (hk : k ≤ L.length) : OwnK K w B t (.slice (some ⟨g, 0, none⟩) k c) (L.take k) := by
  have hl : (L.take k).length = k := by rw [List.length_take]; omega
  obtain ⟨_, ⟨e, _⟩ | ⟨g', c', cur, e, hg, hh, hc, hm, hs, ht⟩⟩ := h
  · cases e
  · injection e with e1 e2 e3
    injection e1 with e1
    injection e1 with e1
    subst e1 e3
    refine ⟨K.flat_len _, Or.inr ⟨g, c, cur, by rw [hl], hg, hh, by omega, hm, hs, ?_⟩⟩
    rw [hl, K.flat_take, ← ht, List.take_take, Nat.min_eq_left (Nat.mul_le_mul_right _ hk)]
theorem KeptF.undrew {F : Nat → Prop} {w w' : World} (h : KeptF F w.drew w') : KeptF F w w' := ⟨h.os, h.tape, h.output, h.size, h.block⟩
theorem KeptF.undrewN {F : Nat → Prop} {w w' : World} {n : Nat} (h : KeptF F (w.drewN n) w') : KeptF F w w' := ⟨h.os, h.tape, h.output, h.size, h.block⟩
theorem setRow_kept (w : World) (g : Nat) (cs : Array Value) : KeptF (fun b => b = g) w (w.setRow g cs) := ⟨rfl, rfl, rfl, by simp [World.setRow], fun k _ hk => setRow_other w g k cs hk⟩
variable {P : Program} {t T : TypeId} {z : Value} {bytes : Nat}
/-- copy of structs, run. -/
theorem run_copy_k (ET : SKT P K t T z bytes) (w : World) (ty : TypeId) (g o dLen dCap : Nat) (a : Addr) (sLen sCap : Nat) (X : List Value) (e : TypeId) (cs : List Value) (k : Nat)
    (hg : w.heap[g]? = some (.cells X.toArray e (0, 0))) (hk : k = Nat.min sLen dLen) (hn : cs.length = k * K.n) (hsrc : ∀ j v, cs[j]? = some v → w.cell? (a.add j) = some v) (hfit : o + cs.length ≤ X.length) (h1 : ∀ v ∈ cs, v.oneCell' = true) :
    (Builtin.copy_ #[T, T] ty #[.slice (some ⟨g, o, none⟩) dLen dCap, .slice (some a) sLen sCap]).run P w = .ok (goInt k) (w.setRow g (splice X o cs).toArray) := by
  obtain ⟨i0, hi, hz0, hz1, hz2⟩ := info_parts ET.info
  have hl := run_loadCells_list (P := P) w a cs hsrc
  have hst := run_storeCells_at P g o e cs 0 X.toArray w hg (by simpa using hfit) h1
  simp only [Nat.add_zero, List.append_assoc] at hst
  rw [splice]
  simp [Builtin.copy_, run_underlying ET.sl, Builtin.lenOf, Builtin.firstCells, sizeOf, typeInfo, hi, hz1, ← hk, ← hn, hl, hst]
theorem wpList_copy_k (ET : SKT P K t T z bytes) {w : World} {ops : Array Oper} {rest : List Oper} {o : Oper} {a : Act} {Q : Exit → Act → World → Prop} (hgd : o.guard = none) (d s : Operand)
    (ho : o.op = .call { callee := .builtin .copy, args := #[d, s], argTypes := #[T, T] }) (g off dLen dCap : Nat) (ad : Addr) (sLen sCap : Nat) (hd : a.eval d = .slice (some ⟨g, off, none⟩) dLen dCap) (hs : a.eval s = .slice (some ad) sLen sCap)
    (X : List Value) (e : TypeId) (hg : w.heap[g]? = some (.cells X.toArray e (0, 0))) (cs : List Value) (k : Nat) (hk : k = Nat.min sLen dLen) (hn : cs.length = k * K.n) (hsrc : ∀ j v, cs[j]? = some v → w.cell? (ad.add j) = some v) (hfit : off + cs.length ≤ X.length) (h1 : ∀ v ∈ cs, v.oneCell' = true)
    (h : ∀ w', Hid (w'.heap[g]? = some (.cells (splice X off cs).toArray e (0, 0))) → Hid (KeptF (fun b => b = g) w w') → wpList P ops Q rest (a.put o.dst (goInt k)) w') : wpList P ops Q (o :: rest) a w := by
  refine wpList_plain hgd fun K' hK => ?_
  have hrun := run_copy_k ET w o.type g off dLen dCap ad sLen sCap X e cs k hg hk hn hsrc hfit h1
  unfold Oper.wp
  simp only [execOp, ho, resolve, invoke, builtin, Sem.run_bind, Sem.run_pure, Result.andThen_ok, List.map_toArray, List.map_cons, List.map_nil, hd, hs, hrun]
  exact hK _ _ (h _ (setRow_heap w g _ _ e _ hg) (setRow_kept w g _))
theorem step_copy_k (ET : SKT P K t T z bytes) {w : World} {ops : Array Oper} {o : Oper} {a : Act} {K' : Act → World → Prop} {Q : Exit → Act → World → Prop} {E : Prop} (hgd : o.guard = none) (d s : Operand)
    (ho : o.op = .call { callee := .builtin .copy, args := #[d, s], argTypes := #[T, T] }) (g off dLen dCap : Nat) (ad : Addr) (sLen sCap : Nat) (hd : a.eval d = .slice (some ⟨g, off, none⟩) dLen dCap) (hs : a.eval s = .slice (some ad) sLen sCap)
    (X : List Value) (e : TypeId) (hg : w.heap[g]? = some (.cells X.toArray e (0, 0))) (cs : List Value) (k : Nat) (hk : k = Nat.min sLen dLen) (hn : cs.length = k * K.n) (hsrc : ∀ j v, cs[j]? = some v → w.cell? (ad.add j) = some v) (hfit : off + cs.length ≤ X.length) (h1 : ∀ v ∈ cs, v.oneCell' = true)
    (h : ∀ w', Hid (w'.heap[g]? = some (.cells (splice X off cs).toArray e (0, 0))) → Hid (KeptF (fun b => b = g) w w') → K' (a.put o.dst (goInt k)) w') :
    if Region.wanted o (yielded ops a.tmps) = true then Oper.wp P o a w K' Q else E := by
  have hw : Region.wanted o (yielded ops a.tmps) = true := by simp [Region.wanted, hgd]
  rw [if_pos hw]
  have hrun := run_copy_k ET w o.type g off dLen dCap ad sLen sCap X e cs k hg hk hn hsrc hfit h1
  unfold Oper.wp
  simp only [execOp, ho, resolve, invoke, builtin, Sem.run_bind, Sem.run_pure, Result.andThen_ok, List.map_toArray, List.map_cons, List.map_nil, hd, hs, hrun]
  exact h _ (setRow_heap w g _ _ e _ hg) (setRow_kept w g _)
/-- clear of structs, run. -/
theorem run_clear_k (ET : SKT P K t T z bytes) (hz1 : ∀ i, i < z.cells.size → (z.cells[i]!).oneCell' = true) (w : World) (ty : TypeId) (g o m c : Nat) (dp : Option Addr) (X : List Value) (e : TypeId) (hg : w.heap[g]? = some (.cells X.toArray e (0, 0))) (hd : 0 < m → dp = some ⟨g, o, none⟩) (hfit : o + m * K.n ≤ X.length) :
    ∃ Z : List Value, Z.length = m * K.n ∧ (Builtin.clear_ #[T] ty #[.slice dp m c]).run P w = .ok (.tuple #[]) (w.setRow g (splice X o Z).toArray) := by
  obtain ⟨i0, hi, hz0, hz1', hz2⟩ := info_parts ET.info
  cases m with
  | zero =>
    refine ⟨[], by simp, ?_⟩
    rw [splice_nil, setRow_self w g _ e (0, 0) hg]
    cases dp <;> simp [Builtin.clear_, run_underlying ET.sl]
  | succ m =>
    have hd := hd (by omega)
    subst hd
    have hl : (Builtin.zeroCells z.cells (m + 1)).toList.length = (m + 1) * K.n := by simp [Builtin.zeroCells, ET.zn]
    have h1 : ∀ v ∈ (Builtin.zeroCells z.cells (m + 1)).toList, v.oneCell' = true := by
      intro v hv
      simp only [Builtin.zeroCells, Array.toList_map, List.mem_map] at hv
      obtain ⟨i, _, rfl⟩ := hv
      exact hz1 _ (Nat.mod_lt _ (by rw [ET.zn]; exact K.pos))
    have hst := run_storeCells_at P g o e _ 0 X.toArray w hg (by rw [hl]; simpa using hfit) h1
    refine ⟨(Builtin.zeroCells z.cells (m + 1)).toList, hl, ?_⟩
    simp only [Nat.add_zero, List.append_assoc] at hst
    rw [splice]
    simp [Builtin.clear_, run_underlying ET.sl, zeroValue, typeInfo, hi, hz0, hst]
theorem wpList_clear_k (ET : SKT P K t T z bytes) (hz1 : ∀ i, i < z.cells.size → (z.cells[i]!).oneCell' = true) {w : World} {ops : Array Oper} {rest : List Oper} {o : Oper} {a : Act} {Q : Exit → Act → World → Prop} (hgd : o.guard = none) (d : Operand)
    (ho : o.op = .call { callee := .builtin .clear, args := #[d], argTypes := #[T] }) (g off m c : Nat) (dp : Option Addr) (hd : a.eval d = .slice dp m c) (X : List Value) (e : TypeId) (hg : w.heap[g]? = some (.cells X.toArray e (0, 0))) (hdp : 0 < m → dp = some ⟨g, off, none⟩) (hfit : off + m * K.n ≤ X.length)
    (h : ∀ w' Z, Hid (List.length Z = m * K.n) → Hid (w'.heap[g]? = some (.cells (splice X off Z).toArray e (0, 0))) → Hid (KeptF (fun b => b = g) w w') → wpList P ops Q rest (a.put o.dst (.tuple #[])) w') : wpList P ops Q (o :: rest) a w := by
  refine wpList_plain hgd fun K' hK => ?_
  obtain ⟨Z, hZ, hrun⟩ := run_clear_k ET hz1 w o.type g off m c dp X e hg hdp hfit
  unfold Oper.wp
  simp only [execOp, ho, resolve, invoke, builtin, Sem.run_bind, Sem.run_pure, Result.andThen_ok, List.map_toArray, List.map_cons, List.map_nil, hd, hrun]
  exact hK _ _ (h _ Z hZ (setRow_heap w g _ _ e _ hg) (setRow_kept w g _))
/-- append within room. -/
theorem run_app_room_k [Inhabited α] (ET : SKT P K t T z bytes) (w : World) (ty : TypeId) (g i c : Nat) (ad : Addr) (M : List α) (mc : Nat) (X : List Value) (e : TypeId) (hg : w.heap[g]? = some (.cells X.toArray e (0, 0)))
    (hsrc : ∀ j v, (K.flat M)[j]? = some v → w.cell? (ad.add j) = some v) (hroom : i + M.length ≤ c) (hfit : i * K.n + M.length * K.n ≤ X.length) :
    (Builtin.append_ #[T, T] ty #[.slice (some ⟨g, 0, none⟩) i c, .slice (some ad) M.length mc]).run P w = .ok (.slice (some ⟨g, 0, none⟩) (i + M.length) c) (w.setRow g (splice X (i * K.n) (K.flat M)).toArray) := by
  obtain ⟨i0, hi, hz0, hz1, hz2⟩ := info_parts ET.info
  have hl := run_loadCells_list (P := P) w ad (K.flat M) hsrc
  rw [K.flat_len] at hl
  have hst := run_storeCells_at P g (i * K.n) e (K.flat M) 0 X.toArray w hg (by rw [K.flat_len]; simpa using hfit) (K.flat_one M)
  simp only [Nat.add_zero, List.append_assoc] at hst
  have hadd : (⟨g, 0, none⟩ : Addr).add (i * K.n) = ⟨g, i * K.n, none⟩ := by rw [Addr.add_lit, Nat.zero_add]
  rw [splice]
  simp [Builtin.append_, run_underlying ET.sl, Builtin.lenOf, Builtin.firstCells, sizeOf, typeInfo, hi, hz1, hroom, hadd, hl, hst]
theorem wpList_app_room_k [Inhabited α] (ET : SKT P K t T z bytes) {w : World} {ops : Array Oper} {rest : List Oper} {o : Oper} {a : Act} {Q : Exit → Act → World → Prop} (hgd : o.guard = none) (s x : Operand)
    (ho : o.op = .call { callee := .builtin .append, args := #[s, x], argTypes := #[T, T] }) (g i c : Nat) (ad : Addr) (M : List α) (mc : Nat) (hs : a.eval s = .slice (some ⟨g, 0, none⟩) i c) (hx : a.eval x = .slice (some ad) M.length mc) (X : List Value) (e : TypeId) (hg : w.heap[g]? = some (.cells X.toArray e (0, 0)))
    (hsrc : ∀ j v, (K.flat M)[j]? = some v → w.cell? (ad.add j) = some v) (hroom : i + M.length ≤ c) (hfit : i * K.n + M.length * K.n ≤ X.length)
    (h : ∀ w', Hid (w'.heap[g]? = some (.cells (splice X (i * K.n) (K.flat M)).toArray e (0, 0))) → Hid (KeptF (fun b => b = g) w w') → wpList P ops Q rest (a.put o.dst (.slice (some ⟨g, 0, none⟩) (i + M.length) c)) w') : wpList P ops Q (o :: rest) a w := by
  refine wpList_plain hgd fun K' hK => ?_
  have hrun := run_app_room_k ET w o.type g i c ad M mc X e hg hsrc hroom hfit
  unfold Oper.wp
  simp only [execOp, ho, resolve, invoke, builtin, Sem.run_bind, Sem.run_pure, Result.andThen_ok, List.map_toArray, List.map_cons, List.map_nil, hs, hx, hrun]
  exact hK _ _ (h _ (setRow_heap w g _ _ e _ hg) (setRow_kept w g _))
/-- append of zeros that finds no room. -/
theorem run_app_zeros_k (ET : SKT P K t T z bytes) (tn : TypeId) (htn : P.underlying tn = some (.int .i64)) (w : World) (ty : TypeId) (g i c k : Nat) (X : List Value) (e : TypeId) (hg : w.heap[g]? = some (.cells X.toArray e (0, 0))) (hX : i * K.n ≤ X.length) (hk : 0 < k) (hno : c < i + k) (hbig : i + k ≤ 1000000) :
    ∃ w' Y c', (Builtin.append_ #[T, tn] ty #[.slice (some ⟨g, 0, none⟩) i c, .int .i64 (k : Int)]).run P w = .ok (.slice (some ⟨w.heap.size, 0, none⟩) (i + k) c') w' ∧ w'.heap[w.heap.size]? = some (.cells (List.toArray Y) t (0, 0)) ∧ Y.length = c' * K.n ∧ i + k ≤ c' ∧ c' ≤ maxLen ∧ Y.take (i * K.n) = X.take (i * K.n) ∧ Below w.heap.size w w' := by
  obtain ⟨i0, hi, hz0, hz1, hz2⟩ := info_parts ET.info
  have hby := ET.by_
  have hold : (Builtin.firstCells i0.size i (.slice (some ⟨g, 0, none⟩) i c)).run P w.drew = .ok (X.take (i * K.n)).toArray w.drew := by
    have hl := run_loadCells_list (P := P) w.drew ⟨g, 0, none⟩ (X.take (i * K.n)) (fun j v hj => by
      rw [Addr.add_lit, Nat.zero_add]
      have hl := (List.getElem?_eq_some_iff.1 hj).1
      rw [List.length_take] at hl
      rw [List.getElem?_take, if_pos (by omega)] at hj
      simp only [World.cell?, show w.drew.heap[g]? = _ from hg]
      simpa using hj)
    rw [List.length_take, Nat.min_eq_left hX] at hl
    simp [Builtin.firstCells, hz1, hl]
  have hr := Lib.run_append_grow_zeros (P := P) w T tn ty t i0 z .i64 .i64 ET.sl htn hi hz0 (some ⟨g, 0, none⟩) i c (X.take (i * K.n)) hold k hk (by rw [hz1]; exact K.pos) hno (by omega) (by rw [hz2]; exact Nat.le_trans (Nat.mul_le_mul (show k ≤ 1000000 by omega) hby) (by decide)) (growslice_fits hno (by rw [hz2]; exact Nat.le_trans (Nat.mul_le_mul hbig hby) (by decide)))
  have hge := grownCap_ge w (i + k) c t
  have hml := grownCap_le_maxLen w (i + k) c t (by unfold maxLen; omega)
  obtain ⟨c', hc'⟩ : ∃ c', grownCap w (i + k) c t = c' := ⟨_, rfl⟩
  rw [hc'] at hr hge hml
  have hzl : ∀ m, (Builtin.zeroCells z.cells m).size = m * K.n := fun m => by simp [Builtin.zeroCells, ET.zn]
  obtain ⟨Y, hY⟩ : ∃ Y, Y = ((X.take (i * K.n)).toArray ++ Builtin.zeroCells z.cells k ++ Builtin.zeroCells z.cells (c' - (i + k))).toList := ⟨_, rfl⟩
  refine ⟨_, Y, c', hr, ?_, ?_, hge, hml, ?_, ((Below.refl _ _).drew).alloc (Nat.le_refl _) _⟩
  · rw [hY, Array.toArray_toList]
    exact alloc_at w.drew _
  · rw [hY, Array.length_toList, Array.size_append, Array.size_append, hzl, hzl, List.size_toArray, List.length_take, Nat.min_eq_left hX]
    rw [← Nat.add_mul, ← Nat.add_mul]
    congr 1
    omega
  · rw [hY]
    simp only [Array.toList_append, List.append_assoc]
    rw [List.take_append_of_le_length (by simp; omega), List.take_of_length_le (by simp; omega)]
theorem wpList_app_zeros_k (ET : SKT P K t T z bytes) (tn : TypeId) (htn : P.underlying tn = some (.int .i64)) {w : World} {ops : Array Oper} {rest : List Oper} {o : Oper} {a : Act} {Q : Exit → Act → World → Prop} (hgd : o.guard = none) (s x : Operand)
    (ho : o.op = .call { callee := .builtin .append, args := #[s, x], argTypes := #[T, tn] }) (g i c k n' : Nat) (hn' : i + k = n') (u : Int) (hs : a.eval s = .slice (some ⟨g, 0, none⟩) i c) (hx : a.eval x = .int .i64 u) (hu : u = (k : Int)) (X : List Value) (e : TypeId) (hg : w.heap[g]? = some (.cells X.toArray e (0, 0)))
    (hX : i * K.n ≤ X.length) (hk : 0 < k) (hno : c < i + k) (hbig : i + k ≤ 1000000)
    (h : ∀ w' Y c', Hid (w'.heap[w.heap.size]? = some (.cells (List.toArray Y) t (0, 0)) ∧ Y.length = c' * K.n ∧ n' ≤ c' ∧ c' ≤ maxLen ∧ Y.take (i * K.n) = X.take (i * K.n)) → Hid (Below w.heap.size w w') → wpList P ops Q rest (a.put o.dst (.slice (some ⟨w.heap.size, 0, none⟩) n' c')) w') : wpList P ops Q (o :: rest) a w := by
  refine wpList_plain hgd fun K' hK => ?_
  subst hu hn'
  obtain ⟨w', Y, c', hrun, h1, h2, h3, h4, h5, h6⟩ := run_app_zeros_k ET tn htn w o.type g i c k X e hg hX hk hno hbig
  unfold Oper.wp
  simp only [execOp, ho, resolve, invoke, builtin, Sem.run_bind, Sem.run_pure, Result.andThen_ok, List.map_toArray, List.map_cons, List.map_nil, hs, hx, hrun]
  exact hK _ _ (h _ Y c' ⟨h1, h2, h3, h4, h5⟩ h6)
theorem cell_src {w : World} {g o q : Nat} {X : List Value} {e : TypeId} {fz : Nat × Nat} (h : w.heap[g]? = some (.cells X.toArray e fz)) : w.cell? ((⟨g, o, none⟩ : Addr).add q) = X[o + q]? := by
  rw [Addr.add_lit]
  simp [World.cell?, h]
end
/-- two pieces written behind a beginning. -/
theorem fit_take {β : Type} {X FV FD : List β} {a b c : Nat} (hV : FV.length = b) (hD : FD.length = c) (hX : a + b + c ≤ X.length) : (splice (splice X a FV) (a + b) FD).take (a + b + c) = X.take a ++ FV ++ FD := by
  have hl : (splice X a FV).length = X.length := length_splice _ _ _ (by omega)
  have h1 := splice_take_end (X := splice X a FV) (o := a + b) (cs := FD) (by omega)
  have h2 := splice_take_end (X := X) (o := a) (cs := FV) (by omega)
  rw [hD] at h1
  rw [hV] at h2
  rw [h1, h2]
/-- .. the hinder one first. -/
theorem shift_take {β : Type} {X FV FD : List β} {a b c : Nat} (hV : FV.length = b) (hD : FD.length = c) (hX : a + b + c ≤ X.length) : (splice (splice X (a + b) FD) a FV).take (a + b + c) = X.take a ++ FV ++ FD := by
  have hl : (splice X (a + b) FD).length = X.length := length_splice _ _ _ (by omega)
  have h1 := splice_take_end (X := splice X (a + b) FD) (o := a) (cs := FV) (by omega)
  have h2 := splice_drop (X := splice X (a + b) FD) (o := a) (cs := FV) (q := a + b) (by omega) (by omega)
  have h3 := splice_drop_at (X := X) (o := a + b) (cs := FD) (by omega)
  rw [hV] at h1
  rw [hD] at h3
  rw [List.take_add, h1, h2, h3, splice_take (by omega) (by omega)]
end Go.Gz
