/-
  Several texts in one: Rows2, Law2, SlMath, SlBase.
-/
import Derived.Test.YtfadpiipigkocaaChecked
import Derived.WalkKit
import Derived.Handy
import Derived.Below
import Derived.Lib.Hide
import Derived.BigQuiet
import Derived.Deep.QuietTactic
import Derived.RegionTactic
import Derived.LoopTactic
import Derived.ArgAppend
import Derived.Laws.AppendOwnNone
import Derived.Deep.LoopGhost
import Derived.Carry
import Derived.ChangeSame
import Derived.OpenShut
import Derived.ProofKit
import Derived.Deep.Slices
import Derived.Deep.DeepHandedRow
import Derived.Lib.LaidU8
import Derived.WalkLawsBesides
import Derived.WalkSpells
import Derived.Lib.MinMaxS
namespace Go.Proofs.Ytfadpiipigkocaa
open Go.RowKit

/-- slice pointer p reads in w as the numbers xs of kind k. -/
def Row (w : World) (k : IntKind) (p : Option Addr) (xs : List Int) : Prop :=
  xs = [] ∨ ∃ b off, p = some ⟨b, off, none⟩ ∧ b < w.heap.size ∧ ∀ j, j < xs.length → w.cell? ⟨b, off + j, none⟩ = some (.int k (xs.getD j 0))

theorem Row.below {w w' : World} {k : IntKind} {p : Option Addr} {xs : List Int} (h : Row w k p xs) (hb : Below w.heap.size w w') : Row w' k p xs := by
  rcases h with h | ⟨b, off, hp, hlt, hc⟩
  · exact Or.inl h
  · exact Or.inr ⟨b, off, hp, Nat.lt_of_lt_of_le hlt hb.size, fun j hj => by rw [hb.cell (p := ⟨b, off + j, none⟩) hlt]; exact hc j hj⟩
theorem below_drewN {B : Nat} {a w : World} (h : Below B a w) (n : Nat) : Below B a (w.drewN n) := ⟨h.os, h.tape, h.output, h.size, h.block⟩
theorem Row.drew {w : World} {k : IntKind} {p : Option Addr} {xs : List Int} (h : Row w k p xs) : Row w.drew k p xs := h.below (Below.refl _ _).drew

theorem info_rune : (Try.prog.info? 21).map (fun i => (i.zero, i.size, i.bytes)) = some (some (.int .i32 0), 1, 4) := by kernel_rfl
theorem info_byte : (Try.prog.info? 5).map (fun i => (i.zero, i.size, i.bytes)) = some (some (.int .u8 0), 1, 1) := by kernel_rfl

/-- a row that the call owns: the slice v holds the numbers xs. -/
def Own (w : World) (B : Nat) (e : TypeId) (k : IntKind) (v : Value) (xs : List Int) : Prop := w.ownsRow B e 1 v xs.length (xs.map (Value.int k))

theorem Own.nil (w : World) (B : Nat) (e : TypeId) (k : IntKind) : Own w B e k (.slice none 0 0) [] := World.ownsRow_nil w B e 1
theorem Own.row {w : World} {B : Nat} {e : TypeId} {k : IntKind} {v : Value} {xs : List Int} (h : Own w B e k v xs) : ∃ p c, v = .slice p xs.length c ∧ xs.length ≤ c ∧ Row w k p xs := by
  obtain ⟨h1, ⟨rfl, h0⟩ | ⟨g, cap, cur, rfl, hg, hh, hc, hm, hs, ht⟩⟩ := h
  · have : xs = [] := List.eq_nil_of_length_eq_zero h0
    subst this
    exact ⟨none, 0, rfl, Nat.le_refl _, Or.inl rfl⟩
  · refine ⟨_, cap, rfl, hc, Or.inr ⟨g, 0, rfl, (Array.getElem?_eq_some_iff.1 hh).1, fun j hj => ?_⟩⟩
    have hj2 : j < cur.size := by omega
    have e1 : cur[j]? = some (.int k (xs.getD j 0)) := by
      have := congrArg (·[j]?) ht
      simp only [Nat.mul_one, List.getElem?_take, hj, if_true, Array.getElem?_toList, List.getElem?_map] at this
      rw [this]
      simp [List.getD, hj]
    simp only [World.cell?, hh, Nat.zero_add]
    exact e1
theorem Own.lt {w : World} {B : Nat} {e : TypeId} {k : IntKind} {v : Value} {xs : List Int} (h : Own w B e k v xs) : ∀ g, v.ownBlock = some g → B ≤ g := fun g hg => (World.ownsRow.lt h g hg).1

/-- append onto a row that the call owns: the law for the walk. -/
theorem wpList_own_push {P : Program} {w : World} {ops : Array Oper} {rest : List Oper} {o : Oper} {a : Act} {Q : Exit → Act → World → Prop}
    (hg : o.guard = none) (s x : Operand) (t : TypeId) (hop : o.op = Op.call { callee := Callee.builtin Builtin.append, args := #[s, x], argTypes := #[t, t] })
    (e : TypeId) (k : IntKind) (bytes : Nat) (h1 : P.underlying t = some (.slice e)) (hinfo : (P.info? e).map (fun i => (i.zero, i.size, i.bytes)) = some (some (.int k 0), 1, bytes)) (hby : bytes ≤ 8)
    (B : Nat) (v : Value) (xs : List Int) (hs : a.eval s = v) (hown : Own w B e k v xs)
    (G m c : Nat) (ys : List Int) (hx : a.eval x = .slice (some ⟨G, 0, none⟩) m c) (hn : ys.length = m) (hc : ∀ j, j < m → w.cell? ⟨G, j, none⟩ = some (.int k (ys.getD j 0)))
    (hlen : xs.length + m ≤ 1000000) (hB : B ≤ w.heap.size)
    (hK : ∀ v' w', Own w' B e k v' (xs ++ ys) → w.grownBy w' v.ownBlock → wpList P ops Q rest (a.put o.dst v') w') :
    wpList P ops Q (o :: rest) a w := by
  obtain ⟨i0, hi, hz0, hz1, hz2⟩ := info_parts hinfo
  subst hn
  refine wpList_append_own w hg s x t hop B e i0 (.int k 0) 1 bytes h1 hi hz0 hz1 hz2 rfl (by decide) v xs.length (xs.map (Value.int k)) hs hown ⟨G, 0, none⟩ ys.length c (ys.map (Value.int k)) hx (by simp) ?_ ?_ (by unfold maxLen; omega) ?_ hB ?_
  · intro j u hj
    obtain ⟨hj', rfl⟩ := List.getElem?_eq_some_iff.1 hj
    simp only [List.length_map] at hj'
    rw [Addr.add_lit, Nat.zero_add, hc j hj']
    simp [List.getD, hj']
  · intro u hu
    obtain ⟨y, _, rfl⟩ := List.mem_map.1 hu
    rfl
  · have : (xs.length + ys.length) * bytes ≤ (xs.length + ys.length) * 8 := Nat.mul_le_mul_left _ hby
    omega
  · intro v' w' ho hgr _
    refine hK v' w' ?_ hgr
    unfold Own
    rw [List.length_append, List.map_append]
    exact ho
theorem Own.alloc {w : World} {B : Nat} {e : TypeId} {k : IntKind} {v : Value} {xs : List Int} (h : Own w B e k v xs) (o : Obj) : Own (w.alloc o) B e k v xs := World.ownsRow.alloc h o
theorem Own.drewN {w : World} {B : Nat} {e : TypeId} {k : IntKind} {v : Value} {xs : List Int} (h : Own w B e k v xs) (n : Nat) : Own (w.drewN n) B e k v xs := h

theorem row_cell {W wr : World} {k : IntKind} {p : Option Addr} {xs : List Int} (h : Row W k p xs) (hb : Below W.heap.size W wr) {j : Nat} (hj : j < xs.length) : ∃ b o, p = some ⟨b, o, none⟩ ∧ b < W.heap.size ∧ wr.cell? ⟨b, o + j, none⟩ = some (.int k (xs.getD j 0)) := by
  rcases h with h | ⟨b, o, hp, h1, h2⟩
  · rw [h] at hj; simp at hj
  · exact ⟨b, o, hp, h1, by rw [hb.cell (p := ⟨b, o + j, none⟩) h1]; exact h2 j hj⟩

theorem row_lit (w : World) (k : IntKind) (t : TypeId) (xs : List Int) : Row (w.alloc (.cells (xs.map (Value.int k)).toArray t)) k (some ⟨w.heap.size, 0, none⟩) xs := by
  refine Or.inr ⟨w.heap.size, 0, rfl, by simp, fun j hj => ?_⟩
  have hh : (w.alloc (.cells (xs.map (Value.int k)).toArray t)).heap[w.heap.size]? = some (.cells (xs.map (Value.int k)).toArray t) := by
    show (w.heap.push _)[w.heap.size]? = _
    simp
  simp only [World.cell?, hh, Nat.zero_add]
  simp [List.getD, hj]
theorem wpList_open {P : Program} {w : World} {ops : Array Oper} {rest : List Oper} {o : Oper} {a : Act} {Q : Exit → Act → World → Prop}
    (hw : Region.wanted o (yielded ops a.tmps) = true) (h : wpList P ops Q ({ o with guard := none } :: rest) a w) : wpList P ops Q (o :: rest) a w := by
  unfold wpList at h ⊢
  rw [if_pos hw]
  rw [if_pos (by simp [Region.wanted])] at h
  cases o
  exact h

/-- append of a whole slice onto a row that the call owns. -/
theorem wpList_own_row {P : Program} {w : World} {ops : Array Oper} {rest : List Oper} {o : Oper} {a : Act} {Q : Exit → Act → World → Prop}
    (hg : o.guard = none) (s x : Operand) (t : TypeId) (hop : o.op = Op.call { callee := Callee.builtin Builtin.append, args := #[s, x], argTypes := #[t, t] })
    (e : TypeId) (k : IntKind) (bytes : Nat) (h1 : P.underlying t = some (.slice e)) (hinfo : (P.info? e).map (fun i => (i.zero, i.size, i.bytes)) = some (some (.int k 0), 1, bytes)) (hby : bytes ≤ 8)
    (B : Nat) (v : Value) (xs : List Int) (hs : a.eval s = v) (hown : Own w B e k v xs)
    (p : Option Addr) (c : Nat) (ys : List Int) (hx : a.eval x = .slice p ys.length c) (hrow : Row w k p ys) (hpc : p = none → c = 0)
    (hlen : xs.length + ys.length ≤ 1000000) (hB : B ≤ w.heap.size)
    (hK : ∀ v' w', Own w' B e k v' (xs ++ ys) → w.grownBy w' v.ownBlock → wpList P ops Q rest (a.put o.dst v') w') :
    wpList P ops Q (o :: rest) a w := by
  obtain ⟨i0, hi, hz0, hz1, hz2⟩ := info_parts hinfo
  have hys : p = none → ys = [] := fun hp => by
    rcases hrow with h | ⟨b, off, hp', _⟩
    · exact h
    · rw [hp] at hp'; cases hp'
  cases p with
  | none =>
    obtain rfl := hys rfl
    obtain rfl := hpc rfl
    refine wpList_append_own_none hg s x t hop B e i0 1 h1 hi v xs.length (xs.map (Value.int k)) hs hown hx ?_
    refine hK v w ?_ (World.grownBy.refl _ _)
    rw [List.append_nil]; exact hown
  | some ad =>
    refine wpList_append_own w hg s x t hop B e i0 (.int k 0) 1 bytes h1 hi hz0 hz1 hz2 rfl (by decide) v xs.length (xs.map (Value.int k)) hs hown ad ys.length c (ys.map (Value.int k)) hx (by simp) ?_ ?_ (by unfold maxLen; omega) ?_ hB ?_
    · intro j u hj
      obtain ⟨hj', rfl⟩ := List.getElem?_eq_some_iff.1 hj
      simp only [List.length_map] at hj'
      rcases hrow with h | ⟨b, off, hp', _, hc⟩
      · rw [h] at hj'; simp at hj'
      · cases hp'
        rw [Addr.add_lit, hc j hj']
        simp [List.getD, hj']
    · intro u hu
      obtain ⟨y, _, rfl⟩ := List.mem_map.1 hu
      rfl
    · have : (xs.length + ys.length) * bytes ≤ (xs.length + ys.length) * 8 := Nat.mul_le_mul_left _ hby
      omega
    · intro v' w' ho hgr _
      refine hK v' w' ?_ hgr
      unfold Own
      rw [List.length_append, List.map_append]
      exact ho
theorem own_empty (w : World) (B : Nat) (hB : B ≤ w.heap.size) : Own (w.alloc (.cells #[] 21)) B 21 .i32 (.slice (some ⟨w.heap.size, 0, none⟩) 0 0) [] :=
  World.ownsRow_made w #[] 0 hB (by unfold maxLen; omega) rfl

end Go.Proofs.Ytfadpiipigkocaa
namespace Go.Gz
open Go.RowKit Go.ChangeShapes Go.WideShapes

theorem trodAll_below {H : Type} {enc : TypeId × Value → H} {P : Program} {W W' : World} {sp : Nat → Bool} (hl : laidOutB P = true) (hb : Below W.heap.size W W') :
    ∀ (ts : List TypeId) (vs : List Value) (ds : List (DataW H)) (ps : List MemPlace), (∀ t ∈ ts, P.readableRec t = true ∧ t < P.types.size) → DataW.TrodAll enc P W 0 (fun _ => true) true ts vs ds ps →
      (∀ p ∈ ps, p.block < W.heap.size) → (∀ p ∈ ps, sp p.block = true) → DataW.TrodAll enc P W' 0 sp true ts vs ds ps
  | [], [], [], _, _, h, _, _ => h
  | t :: ts, v :: vs, d :: ds, _, hts, ⟨p, q, h1, h2, e⟩, hlt, hsp => by
    subst e
    exact ⟨p, q, WideElems.Trod_stays hl (hts t (by simp)).1 (hts t (by simp)).2 h1 (fun x hx => hb.same (hlt x (by simp [hx]))) (fun x hx => hsp x (by simp [hx])),
      trodAll_below hl hb ts vs ds q (fun u hu => hts u (by simp [hu])) h2 (fun x hx => hlt x (by simp [hx])) (fun x hx => hsp x (by simp [hx])), rfl⟩
  | [], _ :: _, _, _, _, h, _, _ => h.elim
  | [], [], _ :: _, _, _, h, _, _ => h.elim
  | _ :: _, [], _, _, _, h, _, _ => h.elim
  | _ :: _, _ :: _, [], _, _, h, _, _ => h.elim

theorem law_post {H : Type} {enc : TypeId × Value → H} {P : Program} {f : Func} {s : ChangeSpec} {W W' : World} {args : Array Value} {ds : List (DataW H)} {before : List MemPlace} {tb : TypeId}
    (hvars : s.vars = []) (hspec : s.fn H ds = { results := [.lit (.bool true)], args := ds }) (hrt : f.resultTypes = #[tb]) (hbool : P.underlying tb = some .bool)
    (hl : laidOutB P = true) (hts : ∀ t ∈ f.params.toList, P.readableRec t = true ∧ t < P.types.size)
    (hW : DataW.Whole enc P f.params.toList s.vars false W args.toList ds [] before) (hb : Below W.heap.size W W') :
    s.post enc P f false true false false W args (.bool true) W' := by
  have hlt := hW.lt
  obtain ⟨p, q, hA, hV, rfl, hfz, hnd⟩ := hW
  rw [hvars] at hV
  have hq : q = [] := hV
  subst hq
  simp only [List.append_nil] at hlt
  refine ⟨ds, [], p ++ [], [], p, [], ⟨p, [], hA, by rw [hvars]; exact rfl, rfl, hfz, hnd⟩, ?_, ?_, ?_, World.keptBut_mono (fun x hx => ⟨hx, Or.inr (Or.inl (by simpa using hx))⟩) (hb.frame (· ∈ p ++ [])), fun h => by cases h⟩
  · rw [List.append_nil, hspec, hrt]
    exact ⟨[], [], shut_bool hbool _, rfl, rfl⟩
  · rw [List.append_nil, hspec]
    exact trodAll_below hl hb _ _ _ _ hts hA hlt (fun x hx => by simpa using hlt x hx)
  · rw [List.append_nil, hspec, hvars]
    exact rfl
end Go.Gz
namespace Go.Proofs.Ytfadpiipigkocaa
open Go.RowKit Go.ChangeShapes Go.WideShapes
theorem wf_bounds {k : IntKind} {n : Int} (h : (Lit.int k n).wf = true) : k.min ≤ n ∧ n ≤ k.max := by
  simp only [Lit.wf, Bool.and_eq_true, decide_eq_true_eq] at h
  exact h
theorem wf_u16_of {n : Int} (h : (Lit.int .u16 n).wf = true) : 0 ≤ n ∧ n ≤ 65535 := by
  obtain ⟨h1, h2⟩ := wf_bounds h
  have e1 : IntKind.u16.min = 0 := by decide
  have e2 : IntKind.u16.max = 65535 := by decide
  omega

/-- an argument that is a slice of integers. -/
theorem arg_ints {H : Type} {enc : TypeId × Value → H} {P : Program} {W : World} {b0 : Nat} {t e : TypeId} {k : IntKind} {v : Value} {d : DataW H} {ps : List MemPlace} (ht : P.underlying t = some (.slice e)) (he : P.underlying e = some (.int k)) (hc : P.cellsOf e = 1)
    (hval : Value.okWide P W .any b0 t v) (hd : DataW.Trod enc P W 0 (fun _ => true) true t v d ps) :
    ∃ p xs c, v = .slice p xs.length c ∧ Row W k p xs ∧ xs.length ≤ c ∧ c ≤ maxLen ∧ (p = none → c = 0) := by
  obtain ⟨a0, len, cap, rfl⟩ := okWide_slice ht hval
  obtain ⟨fuel, hf⟩ := hd
  rcases open_ints ht he hc hf with ⟨h, _⟩ | ⟨a, len', cap', zs, h, _, hl, hm, hz, _, hcell, _⟩
  · simp [Value.cells] at h
    obtain ⟨rfl, rfl, rfl⟩ := h
    exact ⟨none, [], 0, rfl, Or.inl rfl, Nat.le_refl _, Nat.zero_le _, fun _ => rfl⟩
  · simp [Value.cells] at h
    obtain ⟨rfl, rfl, rfl⟩ := h
    simp only [if_true] at hz
    have hlen : (zs.take len).length = len := by rw [List.length_take]; omega
    refine ⟨some a, zs.take len, cap, by rw [hlen], ?_, by rw [hlen]; exact hl, hm, fun h => by cases h⟩
    by_cases h0 : len = 0
    · exact Or.inl (by subst h0; rfl)
    · have hc0 := hcell 0 (by omega)
      obtain ⟨b, off, spot⟩ := a
      have hsp : spot = none := Go.Proofs.cell_spot (o := off + 0) hc0
      subst hsp
      refine Or.inr ⟨b, off, rfl, World.block_lt_of_cell? W _ hc0, fun j hj => ?_⟩
      rw [hlen] at hj
      have := hcell j (by omega)
      rw [Addr.add_lit] at this
      rw [this]
      simp [List.getD, hj]
end Go.Proofs.Ytfadpiipigkocaa
namespace Go.Proofs.Ytfadpiipigkocaa

def nums (l : List UInt8) : List Int := l.map fun x => (x.toNat : Int)
@[simp] theorem nums_length (l : List UInt8) : (nums l).length = l.length := by simp [nums]
theorem nums_getD (l : List UInt8) (j : Nat) (h : j < l.length) : (nums l).getD j 0 = ((l.getD j 0).toNat : Int) := by simp [nums, List.getD, h]
theorem nums_append (a b : List UInt8) : nums (a ++ b) = nums a ++ nums b := by simp [nums]
theorem nums_cons (x : UInt8) (l : List UInt8) : nums (x :: l) = (x.toNat : Int) :: nums l := rfl
theorem nums_take (l : List UInt8) (k : Nat) : nums (l.take k) = (nums l).take k := by simp [nums, List.map_take]
theorem nums_drop (l : List UInt8) (k : Nat) : nums (l.drop k) = (nums l).drop k := by simp [nums, List.map_drop]
theorem nums_of (xs : List Int) (h : ∀ n ∈ xs, 0 ≤ n ∧ n ≤ 255) : ∃ l : List UInt8, xs = nums l := by
  induction xs with
  | nil => exact ⟨[], rfl⟩
  | cons x r ih =>
    obtain ⟨l, hl⟩ := ih fun n hn => h n (by simp [hn])
    have hx := h x (by simp)
    refine ⟨UInt8.ofNat x.toNat :: l, ?_⟩
    rw [nums_cons, hl]
    have : (UInt8.ofNat x.toNat).toNat = x.toNat := by simp; omega
    rw [this, Int.toNat_of_nonneg hx.1]

def stU (s : Nat × Nat) (x : UInt8) : Nat × Nat := (s.1 + x.toNat, s.2 + (s.1 + x.toNat))
def stR (s : Nat × Nat) (x : UInt8) : Nat × Nat := ((s.1 + x.toNat) % 65521, (s.2 + (s.1 + x.toNat) % 65521) % 65521)
def runU (s : Nat × Nat) (l : List UInt8) : Nat × Nat := l.foldl stU s
def runR (s : Nat × Nat) (l : List UInt8) : Nat × Nat := l.foldl stR s
def modP (s : Nat × Nat) : Nat × Nat := (s.1 % 65521, s.2 % 65521)

theorem mod_step (s : Nat × Nat) (x : UInt8) : modP (stU s x) = stR (modP s) x := by
  simp only [modP, stU, stR, Prod.mk.injEq]
  omega
theorem mod_run : ∀ (l : List UInt8) (s : Nat × Nat), modP (runU s l) = runR (modP s) l
  | [], _ => rfl
  | x :: l, s => by
    show modP (runU (stU s x) l) = runR (stR (modP s) x) l
    rw [mod_run l, mod_step]
theorem runR_append (s : Nat × Nat) (a b : List UInt8) : runR s (a ++ b) = runR (runR s a) b := by simp [runR]
theorem runU_snoc (s : Nat × Nat) (a : List UInt8) (x : UInt8) : runU s (a ++ [x]) = stU (runU s a) x := by simp [runU]
theorem runR_snoc (s : Nat × Nat) (a : List UInt8) (x : UInt8) : runR s (a ++ [x]) = stR (runR s a) x := by simp [runR]
theorem take_snoc8 (l : List UInt8) (k : Nat) (h : k < l.length) : l.take (k + 1) = l.take k ++ [l.getD k 0] := by
  rw [List.take_succ_eq_append_getElem h]; simp [List.getD, h]
theorem u8_lt (x : UInt8) : x.toNat ≤ 255 := by have := UInt8.toNat_lt x; omega
theorem runU_le : ∀ (l : List UInt8) (n : Nat) (s : Nat × Nat), n + l.length ≤ 65536 → s.1 ≤ 65520 + 255 * n → s.2 ≤ 65520 + n * 16777216 →
    (runU s l).1 ≤ 65520 + 255 * (n + l.length) ∧ (runU s l).2 ≤ 65520 + (n + l.length) * 16777216
  | [], n, s, _, h1, h2 => ⟨by simpa [runU] using h1, by simpa [runU] using h2⟩
  | x :: l, n, s, h0, h1, h2 => by
    have hx := u8_lt x
    simp only [List.length_cons] at h0 ⊢
    have := runU_le l (n + 1) (stU s x) (by omega) (by simp only [stU]; omega) (by simp only [stU]; omega)
    rw [show n + (l.length + 1) = n + 1 + l.length by omega]
    exact this
theorem runR_lt : ∀ (l : List UInt8) (s : Nat × Nat), s.1 < 65521 → s.2 < 65521 → (runR s l).1 < 65521 ∧ (runR s l).2 < 65521
  | [], _, h1, h2 => ⟨h1, h2⟩
  | x :: l, s, _, _ => runR_lt l (stR s x) (Nat.mod_lt _ (by decide)) (Nat.mod_lt _ (by decide))

def sumB : List UInt8 → Nat
  | [] => 0
  | x :: l => x.toNat + sumB l
theorem sumB_append (a b : List UInt8) : sumB (a ++ b) = sumB a + sumB b := by
  induction a with
  | nil => simp [sumB]
  | cons x r ih => simp [sumB, ih]; omega
theorem runR_fst : ∀ (l : List UInt8) (s : Nat × Nat), s.1 < 65521 → (runR s l).1 = (s.1 + sumB l) % 65521
  | [], s, h => by simp [runR, sumB, Nat.mod_eq_of_lt h]
  | x :: l, s, _ => by
    have := runR_fst l (stR s x) (Nat.mod_lt _ (by decide))
    show (runR (stR s x) l).1 = _
    rw [this]
    simp only [stR, sumB]
    omega

/-- P8.1. -/
def sumL (l : List UInt8) : Nat := (runR (1, 0) l).2 * 65536 + (runR (1, 0) l).1
theorem sumL_lt (l : List UInt8) : sumL l < 4294967296 := by
  have := runR_lt l (1, 0) (by decide) (by decide)
  unfold sumL; omega
theorem sumL_mod (l : List UInt8) : sumL l % 65536 = (1 + sumB l) % 65521 := by
  have h1 := runR_lt l (1, 0) (by decide) (by decide)
  have h2 := runR_fst l (1, 0) (by decide)
  simp only at h2
  unfold sumL
  rw [← h2]; omega
theorem sumL_ne {a b : List UInt8} (h1 : sumB a < sumB b) (h2 : sumB b - sumB a < 65521) : sumL a ≠ sumL b := by
  intro h
  have ha := sumL_mod a
  have hb := sumL_mod b
  rw [h, hb] at ha
  omega

def be2 (n : Nat) : List UInt8 := [UInt8.ofNat (n / 256), UInt8.ofNat n]
def be4 (n : Nat) : List UInt8 := [UInt8.ofNat (n / 16777216), UInt8.ofNat (n / 65536), UInt8.ofNat (n / 256), UInt8.ofNat n]
def numL (l : List UInt8) : Nat := l.foldl (fun n x => n * 256 + x.toNat) 0
theorem of8 (n : Nat) : (UInt8.ofNat n).toNat = n % 256 := by simp
theorem numL_be2 (n : Nat) (h : n < 65536) : numL (be2 n) = n := by simp only [numL, be2, List.foldl, of8]; omega
theorem numL_be4 (n : Nat) (h : n < 4294967296) : numL (be4 n) = n := by simp only [numL, be4, List.foldl, of8]; omega
theorem numL_snoc (a : List UInt8) (x : UInt8) : numL (a ++ [x]) = numL a * 256 + x.toNat := by simp [numL]
theorem numL_two (x y : UInt8) : numL [x, y] = x.toNat * 256 + y.toNat := by simp [numL]
theorem numL_lt : ∀ (l : List UInt8), l.length ≤ 4 → numL l < 4294967296
  | [], _ => by decide
  | [a], _ => by have := u8_lt a; simp only [numL, List.foldl]; omega
  | [a, b], _ => by have := u8_lt a; have := u8_lt b; simp only [numL, List.foldl]; omega
  | [a, b, c], _ => by have := u8_lt a; have := u8_lt b; have := u8_lt c; simp only [numL, List.foldl]; omega
  | [a, b, c, d], _ => by have := u8_lt a; have := u8_lt b; have := u8_lt c; have := u8_lt d; simp only [numL, List.foldl]; omega
  | _ :: _ :: _ :: _ :: _ :: _, h => by simp at h

/-- P8.2. -/
def headL (kind : UInt8) (l : List UInt8) : List UInt8 := be2 l.length ++ [kind]
def frameL (kind : UInt8) (l : List UInt8) : List UInt8 := headL kind l ++ be4 (sumL (headL kind l ++ l)) ++ l
theorem frameL_length (kind : UInt8) (l : List UInt8) : (frameL kind l).length = 7 + l.length := by simp [frameL, headL, be2, be4]; omega

def manyL (b : List UInt8) : Nat := numL (b.take 2)
def dataL (b : List UInt8) : List UInt8 := (b.drop 7).take (manyL b)
def kindL (b : List UInt8) : UInt8 := b.getD 2 0
def errL (b : List UInt8) : Nat :=
  if b.length < 7 then 7 else if 32768 < manyL b then 3 else if b.length < 7 + manyL b then 7
  else if sumL (b.take 3 ++ dataL b) = numL ((b.drop 3).take 4) then 0 else 6

theorem many_frame (kind : UInt8) (l r : List UInt8) (h : l.length ≤ 32768) : manyL (frameL kind l ++ r) = l.length := by
  show numL (be2 l.length) = _
  exact numL_be2 _ (by omega)
theorem data_frame (kind : UInt8) (l r : List UInt8) (h : l.length ≤ 32768) : dataL (frameL kind l ++ r) = l := by
  unfold dataL
  rw [many_frame kind l r h]
  show (l ++ r).take l.length = l
  simp
theorem kind_frame (kind : UInt8) (l r : List UInt8) : kindL (frameL kind l ++ r) = kind := rfl
theorem err_frame (kind : UInt8) (l r : List UInt8) (h : l.length ≤ 32768) : errL (frameL kind l ++ r) = 0 := by
  have e : (frameL kind l ++ r).length = 7 + l.length + r.length := by rw [List.length_append, frameL_length]
  unfold errL
  rw [many_frame kind l r h, data_frame kind l r h, if_neg (by omega), if_neg (by omega), if_neg (by omega), if_pos]
  show sumL (headL kind l ++ l) = numL (be4 (sumL (headL kind l ++ l)))
  rw [numL_be4 _ (sumL_lt _)]
theorem err_cut (kind : UInt8) (l : List UInt8) (h : l.length ≤ 32768) (k : Nat) (hk : k < 7 + l.length) : errL ((frameL kind l).take k) = 7 := by
  have e : ((frameL kind l).take k).length = k := by rw [List.length_take, frameL_length]; omega
  unfold errL
  rw [e]
  by_cases h7 : k < 7
  · rw [if_pos h7]
  · have hm : manyL ((frameL kind l).take k) = l.length := by
      have := many_frame kind l [] h
      rw [List.append_nil] at this
      rw [← this]
      unfold manyL
      rw [List.take_take, Nat.min_eq_left (by omega)]
    rw [hm, if_neg h7, if_neg (by omega), if_pos hk]

/-- what All answers: the data of all frames, kinds ahead, and how many bytes they have. -/
inductive AllIs : List UInt8 → List (List UInt8) → Nat → Prop
  | stop {b : List UInt8} : errL b ≠ 0 → AllIs b [] 0
  | step {b : List UInt8} {r : List (List UInt8)} {n : Nat} : errL b = 0 → AllIs (b.drop (7 + manyL b)) r n → AllIs b ((kindL b :: dataL b) :: r) (7 + manyL b + n)
theorem errL_room {b : List UInt8} (h : errL b = 0) : 7 + manyL b ≤ b.length ∧ manyL b ≤ 32768 := by
  unfold errL at h
  split at h
  · cases h
  · split at h
    · cases h
    · split at h
      · cases h
      · omega
theorem all_le {b : List UInt8} {r : List (List UInt8)} {n : Nat} (h : AllIs b r n) : n ≤ b.length := by
  induction h with
  | stop _ => exact Nat.zero_le _
  | step he _ ih => have := errL_room he; rw [List.length_drop] at ih; omega
theorem all_frame {kind : UInt8} {l r : List UInt8} {rs : List (List UInt8)} {n : Nat} (h : l.length ≤ 32768) (hr : AllIs r rs n) : AllIs (frameL kind l ++ r) ((kind :: l) :: rs) (7 + l.length + n) := by
  have h1 := many_frame kind l r h
  have h2 := data_frame kind l r h
  have h3 := kind_frame kind l r
  have h4 := AllIs.step (b := frameL kind l ++ r) (r := rs) (n := n) (err_frame kind l r h) (by
    rw [h1, ← frameL_length kind l, List.drop_left]; exact hr)
  rwa [h1, h2, h3] at h4
theorem all_nil : AllIs [] [] 0 := .stop (by decide)

/-- a frame of which a byte of the data is turned. -/
theorem err_set_data (kind : UInt8) (l r : List UInt8) (h : l.length ≤ 32768) (j : Nat) (hj : j < l.length) (y : UInt8) (hy : y ≠ l.getD j 0) : errL ((frameL kind l ++ r).set (7 + j) y) = 6 := by
  have e : (frameL kind l ++ r).set (7 + j) y = (headL kind l ++ be4 (sumL (headL kind l ++ l))) ++ (l.set j y ++ r) := by
    show (((headL kind l ++ be4 (sumL (headL kind l ++ l))) ++ l) ++ r).set (7 + j) y = _
    rw [List.append_assoc, List.set_append, if_neg (by simp [headL, be2, be4])]
    have : 7 + j - (headL kind l ++ be4 (sumL (headL kind l ++ l))).length = j := by simp [headL, be2, be4]
    rw [this, List.set_append, if_pos hj]
  have hm : manyL ((headL kind l ++ be4 (sumL (headL kind l ++ l))) ++ (l.set j y ++ r)) = l.length := numL_be2 _ (by omega)
  have hd : dataL ((headL kind l ++ be4 (sumL (headL kind l ++ l))) ++ (l.set j y ++ r)) = l.set j y := by
    unfold dataL
    rw [hm]
    show (l.set j y ++ r).take l.length = _
    rw [List.take_append_of_le_length (by simp), List.take_of_length_le (by simp)]
  rw [e]
  unfold errL
  rw [hm, hd, if_neg (by simp [headL, be2, be4]), if_neg (by omega), if_neg (by simp [headL, be2, be4]; omega), if_neg]
  show ¬ sumL (headL kind l ++ l.set j y) = numL (be4 (sumL (headL kind l ++ l)))
  rw [numL_be4 _ (sumL_lt _)]
  have h1 : sumB l + y.toNat = sumB (l.set j y) + (l.getD j 0).toNat := by
    clear hd hm e hy h
    induction l generalizing j with
    | nil => simp at hj
    | cons x q ih =>
      cases j with
      | zero => simp [sumB]; omega
      | succ j => have := ih j (by simpa using hj); simp only [List.set_cons_succ, sumB, List.getD_cons_succ]; omega
  have hy' : y.toNat ≠ (l.getD j 0).toNat := fun h => hy (UInt8.toNat_inj.1 h)
  have b1 := u8_lt y
  have b2 := u8_lt (l.getD j 0)
  have s1 := sumB_append (headL kind l) (l.set j y)
  have s2 := sumB_append (headL kind l) l
  rcases Nat.lt_or_gt_of_ne hy' with hh | hh
  · exact sumL_ne (by omega) (by omega)
  · exact fun h => sumL_ne (a := headL kind l ++ l) (b := headL kind l ++ l.set j y) (by omega) (by omega) h.symm
/-- a frame of which the kind is turned. -/
theorem err_set_kind (kind : UInt8) (l r : List UInt8) (h : l.length ≤ 32768) (y : UInt8) (hy : y ≠ kind) : errL ((frameL kind l ++ r).set 2 y) = 6 := by
  have e : (frameL kind l ++ r).set 2 y = (headL y l ++ be4 (sumL (headL kind l ++ l))) ++ (l ++ r) := by
    show (((headL kind l ++ be4 (sumL (headL kind l ++ l))) ++ l) ++ r).set 2 y = _
    simp [headL, be2, be4]
  have hm : manyL ((headL y l ++ be4 (sumL (headL kind l ++ l))) ++ (l ++ r)) = l.length := numL_be2 _ (by omega)
  have hd : dataL ((headL y l ++ be4 (sumL (headL kind l ++ l))) ++ (l ++ r)) = l := by
    unfold dataL
    rw [hm]
    show (l ++ r).take l.length = _
    simp
  rw [e]
  unfold errL
  rw [hm, hd, if_neg (by simp [headL, be2, be4]), if_neg (by omega), if_neg (by simp [headL, be2, be4]; omega), if_neg]
  show ¬ sumL (headL y l ++ l) = numL (be4 (sumL (headL kind l ++ l)))
  rw [numL_be4 _ (sumL_lt _)]
  have hy' : y.toNat ≠ kind.toNat := fun h => hy (UInt8.toNat_inj.1 h)
  have b1 := u8_lt y
  have b2 := u8_lt kind
  have s1 := sumB_append (headL y l) l
  have s2 := sumB_append (headL kind l) l
  have t1 : sumB (headL y l) = sumB (be2 l.length) + y.toNat := by unfold headL; rw [sumB_append]; simp [sumB]
  have t2 : sumB (headL kind l) = sumB (be2 l.length) + kind.toNat := by unfold headL; rw [sumB_append]; simp [sumB]
  rcases Nat.lt_or_gt_of_ne hy' with hh | hh
  · exact sumL_ne (by omega) (by omega)
  · exact fun h => sumL_ne (a := headL kind l ++ l) (b := headL y l ++ l) (by omega) (by omega) h.symm
end Go.Proofs.Ytfadpiipigkocaa
namespace Go.Proofs.Ytfadpiipigkocaa
open Go.RowKit

theorem ret_int {k : IntKind} {a b : Int} (h : a = b) : Ending.returned (.int k a) = .returned (.int k b) := by rw [h]

/-- 'string(b)' of a row of bytes. -/
theorem run_string (w : World) (l : List UInt8) (p : Option Addr) (c : Nat) (hp : Row w .u8 p (nums l)) :
    (convert 50 9 (.slice p l.length c)).run Try.prog w = .ok (.string ⟨l.toArray⟩) w := by
  rcases hp with h | ⟨b, off, rfl, hlt, hc⟩
  · have : l = [] := by simpa [nums] using h
    subst this
    show (convert 50 9 (.slice p 0 c)).run Try.prog w = _
    rw [run_convert_bytes_string w 50 9 5 p 0 c Try.underlying50 Try.underlying5 Try.underlying9]
    cases p <;> simp [Conv.bytesToString, loadCells]
    all_goals rfl
  · exact run_convert_bytes_back w 50 9 5 ⟨b, off, none⟩ c l Try.underlying50 Try.underlying5 Try.underlying9 (fun j hj => by
      rw [Addr.add_lit, hc j (by simpa using hj), nums_getD _ _ hj]
      simp [List.getD, hj])

/-- the cell of a row of bytes. -/
theorem byte_cell {W wr : World} {p : Option Addr} {l : List UInt8} (h : Row W .u8 p (nums l)) (hb : Below W.heap.size W wr) {j : Nat} (hj : j < l.length) : ∃ b o, p = some ⟨b, o, none⟩ ∧ b < W.heap.size ∧ wr.cell? ⟨b, o + j, none⟩ = some (.int .u8 ((l.getD j 0).toNat : Int)) := by
  obtain ⟨b, o, hp, hlt, hc⟩ := row_cell h hb (j := j) (by simpa using hj)
  exact ⟨b, o, hp, hlt, by rw [hc, nums_getD _ _ hj]⟩
theorem own_row {w : World} {B : Nat} {e : TypeId} {k : IntKind} {v : Value} {xs : List Int} (h : Own w B e k v xs) : ∃ p c, v = .slice p xs.length c ∧ xs.length ≤ c ∧ (p = none → c = 0) ∧ Row w k p xs := by
  obtain ⟨q, d, rfl, h1, h2⟩ := Own.row h
  refine ⟨q, d, rfl, h1, fun hq => ?_, h2⟩
  subst hq
  obtain ⟨_, ⟨h3, _⟩ | ⟨g, cap, cur, h3, _⟩⟩ := h
  · injection h3
  · injection h3 with h3; cases h3
theorem below_own {w w' : World} {B : Nat} {e : TypeId} {k : IntKind} {v : Value} {xs : List Int} (h : Own w B e k v xs) (hb : Below w.heap.size w w') : Own w' B e k v xs := by
  obtain ⟨h1, h2⟩ := h
  refine ⟨h1, ?_⟩
  rcases h2 with h2 | ⟨g, cap, cur, e, hg, hh, hc, hm, hs, ht⟩
  · exact Or.inl h2
  · exact Or.inr ⟨g, cap, cur, e, hg, by rw [hb.block g (Array.getElem?_eq_some_iff.1 hh).1]; exact hh, hc, hm, hs, ht⟩
end Go.Proofs.Ytfadpiipigkocaa
