/-
  Several texts in one: AtRefMay, RegLay, RegApp, AtMade.
-/
import Derived.Test.YtfadpiipigkocaaAtWhole
import Derived.Test.YtfadpiipigkocaaMg07
import Derived.Test.YtfadpiipigkocaaMg09
import Derived.Test.YtfadpiipigkocaaMg13
import Derived.Deep.RegionLaw
import Derived.LoopTactic
import Derived.Deep.CutRange
namespace Go.Proofs.Ytfadpiipigkocaa
open Go.RowKit Go.Gz

open Classical in
noncomputable def mayAB (nodes ep : Int) (L : List Sd) : Bool := decide (MayA nodes ep L)
theorem mayAB_iff (nodes ep : Int) (L : List Sd) : mayAB nodes ep L = true ↔ MayA nodes ep L := by unfold mayAB; simp
def okSd (nodes ep : Int) (x : Sd) : Prop := 1 ≤ x.n ∧ x.n ≤ nodes ∧ 1 ≤ x.e ∧ x.e ≤ ep
theorem mayAB_no {nodes ep : Int} {L : List Sd} (h : ¬ MayA nodes ep L) : mayAB nodes ep L = false := by
  cases hb : mayAB nodes ep L with
  | false => rfl
  | true => exact absurd ((mayAB_iff _ _ _).1 hb) h

set_option maxHeartbeats 8000000 in
set_option maxRecDepth 100000 in
theorem refAtlasMay_any (w : World) (ep nodes : Int) (L : List Sd) (p : Option Addr) (ca : Nat) (hp : RowK KS w p L) (hL : L.length ≤ 9223372036854775807) :
    Calls Try.prog 19 #[.agg #[.int .i64 ep, .slice p L.length ca], .int .i64 nodes] w fun e w' => e = .returned (.bool (mayAB nodes ep L)) ∧ Below w.heap.size w w' := by
  obtain ⟨n, hN⟩ : ∃ n, L.length = n := ⟨_, rfl⟩
  have HN := Lib.hid hN
  have HMY := Lib.hid (show MayA nodes ep L → (1 ≤ nodes ∧ nodes ≤ 5) ∧ (1 ≤ n ∧ n ≤ 12) ∧ 1 ≤ ep ∧ (∀ x ∈ L, okSd nodes ep x) ∧ wholeB (L.map Sd.sp) = true from fun h => ⟨h.nd, by rw [← hN]; exact h.ln, h.ep1, h.sh, h.wh⟩)
  have HMK := Lib.hid (show (1 ≤ nodes ∧ nodes ≤ 5) → (1 ≤ n ∧ n ≤ 12) → 1 ≤ ep → (∀ x ∈ L, okSd nodes ep x) → mayAB nodes ep L = wholeB (L.map Sd.sp) from fun h1 h2 h3 h4 => by
    cases hw : wholeB (L.map Sd.sp) with
    | true => exact (mayAB_iff _ _ _).2 ⟨h1, by rw [hN]; exact h2, h3, h4, hw⟩
    | false => exact mayAB_no fun h => by have := h.wh; rw [hw] at this; cases this)
  rw [hN] at hL ⊢
  obtain ⟨w0, hw0⟩ : ∃ w0, w.alloc (.cells #[.int .i64 ep, .slice p n ca] 33) = w0 := ⟨_, rfl⟩
  have HB0 := Lib.hid (show Below w.heap.size w w0 from hw0 ▸ below_alloc _ _)
  have HBX := Lib.hid (show BoxA w0 w.heap.size ep (.slice p n ca) from hw0 ▸ BoxA.new w _ _ _)
  have HR := Lib.hid (hp.below HB0.out)
  have HBad := Lib.hid (show ¬ MayA nodes ep L → ∀ w', Below w0.heap.size w0 w' → (Ending.returned (Value.bool false) = .returned (.bool (mayAB nodes ep L)) ∧ Below w.heap.size w w') from fun h w' hb => ⟨by rw [mayAB_no h], HB0.out.trans (hb.mono HB0.out.size)⟩)
  obtain ⟨_, x0, x1⟩ := HBX.out
  clear hN hp
  go_enter Try.func19, Try.ntmps19
  by_cases hn1 : nodes < 1
  · have HQ := Lib.hid (HBad.out (fun h => by have := (HMY.out h).1; omega) w0 (Below.refl _ _))
    go_wp2_with fail
    go_ret
    exact HQ.out
  by_cases hn2 : 5 < nodes
  · have HQ := Lib.hid (HBad.out (fun h => by have := (HMY.out h).1; omega) w0 (Below.refl _ _))
    go_wp2_with fail
    go_ret
    exact HQ.out
  by_cases hl1 : (n : Int) < 1
  · have HQ := Lib.hid (HBad.out (fun h => by have := (HMY.out h).2.1; omega) w0 (Below.refl _ _))
    go_wp2_with fail
    go_ret
    exact HQ.out
  by_cases hl2 : (12 : Int) < (n : Int)
  · have HQ := Lib.hid (HBad.out (fun h => by have := (HMY.out h).2.1; omega) w0 (Below.refl _ _))
    go_wp2_with fail
    go_ret
    exact HQ.out
  by_cases he1 : ep < 1
  · have HQ := Lib.hid (HBad.out (fun h => by have := (HMY.out h).2.2.1; omega) w0 (Below.refl _ _))
    go_wp2_with fail
    go_ret
    exact HQ.out
  go_wp2_with fail
  clear x0 x1
  go_loopw [5, 6] (fun v i wr => ∃ k : Nat, i = .int .i64 k ∧ k ≤ n ∧ Hid (OwnK KP wr w0.heap.size 29 v ((L.take k).map Sd.sp)) ∧ Hid (Below w0.heap.size w0 wr) ∧ Hid (∀ x ∈ L.take k, okSd nodes ep x)) (fun _ i _ => n - (RowKit.intOf i).toNat)
  case atStart => exact ⟨0, rfl, Nat.zero_le _, Lib.hid (OwnK.nil KP _ _ _), Lib.hid (Below.refl _ _), Lib.hid (fun x hx => by simp at hx)⟩
  case round =>
    obtain ⟨k, rfl, hkn, HOW, BW, A⟩ := hrel
    obtain ⟨hkb, x0, x1⟩ := HBX.out.below BW.out
    rcases Nat.lt_or_ge k n with hk | hk
    · have hkz : (k : Int) < (n : Int) := by omega
      have hklt : k < L.length := by rw [HN.out]; exact hk
      obtain ⟨e, he⟩ : ∃ e, L.getD k default = e := ⟨_, rfl⟩
      obtain ⟨pb, po, rfl, hpb, hcell⟩ := HR.out.cells BW.out hklt
      rw [he] at hcell
      have HMem := Lib.hid (show e ∈ L by rw [← he]; exact get_mem hklt)
      have HTK1 := Lib.hid (show L.take (k + 1) = L.take k ++ [e] by
        rw [List.take_succ_eq_append_getElem hklt, ← he]
        simp [List.getD, hklt])
      have HLK := Lib.hid (show ((L.take k).map Sd.sp).length = k by rw [List.length_map, List.length_take]; omega)
      obtain ⟨⟨ef, et⟩, en, ee⟩ := e
      have z0 := hcell 0 (by decide)
      have z1 := hcell 1 (by decide)
      have z2 := hcell 2 (by decide)
      have z3 := hcell 3 (by decide)
      simp only [KS, Nat.add_zero] at z0 z1 z2 z3
      clear hcell he
      obtain ⟨q, c, hvq, _⟩ := HOW.out.row
      obtain ⟨w1, hw1⟩ : ∃ w1, wr.alloc (.cells #[.string ef, .string et, .int .i64 en, .int .i64 ee] 76) = w1 := ⟨_, rfl⟩
      have HB1 := Lib.hid (BW.out.trans ((show Below wr.heap.size wr w1 from hw1 ▸ below_alloc _ _).mono BW.out.size))
      have HO1 := Lib.hid (show OwnK KP w1 w0.heap.size 29 _ _ from hw1 ▸ HOW.out.alloc _)
      have HS1 := Lib.hid (show w1.heap.size = wr.heap.size + 1 by rw [← hw1]; simp)
      have HON := Lib.hid (show RowK KP (w1.alloc (.cells #[.string ef, .string et] 29)) (some ⟨wr.heap.size + 1, 0, none⟩) [⟨ef, et⟩] from HS1.out ▸ RowK.block KP (L := [⟨ef, et⟩]) (alloc_at w1 (.cells #[.string ef, .string et] 29)))
      have HBd := Lib.hid (show ¬ okSd nodes ep ⟨⟨ef, et⟩, en, ee⟩ → (Ending.returned (Value.bool false) = .returned (.bool (mayAB nodes ep L)) ∧ Below w.heap.size w w1) from fun h => HBad.out (fun hm => h ((HMY.out hm).2.2.2.1 _ HMem.out)) w1 HB1.out)
      have HW1 := Lib.hid hw1
      clear hw1
      by_cases a1 : en < 1
      · have HQ := Lib.hid (HBd.out (fun h => by have := h.1; simp only at this; omega))
        go_wp2_with fail
        rw [HW1.out]
        go_ret
        exact HQ.out
      by_cases a2 : nodes < en
      · have HQ := Lib.hid (HBd.out (fun h => by have := h.2.1; simp only at this; omega))
        go_wp2_with fail
        rw [HW1.out]
        go_ret
        exact HQ.out
      by_cases a3 : ee < 1
      · have HQ := Lib.hid (HBd.out (fun h => by have := h.2.2.1; simp only at this; omega))
        go_wp2_with fail
        rw [HW1.out]
        go_ret
        exact HQ.out
      by_cases a4 : ep < ee
      · have HQ := Lib.hid (HBd.out (fun h => by have := h.2.2.2; simp only at this; omega))
        go_wp2_with fail
        rw [HW1.out]
        go_ret
        exact HQ.out
      go_wp2_with (at_builtin; rw [HW1.out]; refine wpList_app_k skt_span rfl _ _ rfl rfl (HO1.out.alloc _) (some ⟨wr.heap.size + 1, 0, none⟩) 1 [⟨ef, et⟩] rfl HON.out (fun h => by cases h) (by have := HLK.out; simp only [List.length_cons, List.length_nil]; omega) (by have := HB1.out.size; simp; omega) ?_; intro v4 w4 hown4 hgrow4 hat4)
      have HO4 := Lib.hid (show OwnK KP w4 w0.heap.size 29 v4 ((L.take (k + 1)).map Sd.sp) by rw [HTK1.out, List.map_append]; exact hown4)
      have HB4 := Lib.hid ((HB1.out.alloc HB1.out.size _).grown hgrow4 (by have := HB1.out.size; simp; omega) (fun g hg => (HO1.out.ltB g hg).1))
      have HA4 := Lib.hid (show ∀ x ∈ L.take (k + 1), okSd nodes ep x from fun x hx => by
        rw [HTK1.out] at hx
        rcases List.mem_append.1 hx with hx | hx
        · exact A.out x hx
        · simp only [List.mem_cons, List.not_mem_nil, or_false] at hx
          subst hx
          exact ⟨by simp only; omega, by simp only; omega, by simp only; omega, by simp only; omega⟩)
      exact ⟨⟨k + 1, by go_num, hk, HO4, HB4, HA4⟩, by simp [RowKit.intOf]; omega⟩
    · have hkz : ¬ (k : Int) < (n : Int) := by omega
      obtain rfl : k = n := by omega
      obtain ⟨q, c, hvq, _, _, hrow, _⟩ := HOW.out.row
      have etk : L.take k = L := List.take_of_length_le (by rw [HN.out]; exact Nat.le_refl _)
      have hlen : ((L.take k).map Sd.sp).length = k := by rw [List.length_map, etk, HN.out]
      have CF := Lib.hid (refWhole_any ((L.take k).map Sd.sp) q c wr hrow (by rw [hlen]; omega))
      rw [hlen] at CF hvq
      rw [etk] at CF
      subst hvq
      have HQ := Lib.hid (show mayAB nodes ep L = wholeB (L.map Sd.sp) from HMK.out ⟨by omega, by omega⟩ ⟨by omega, by omega⟩ (by omega) (fun x hx => A.out x (by rw [etk]; exact hx)))
      clear hrow HOW
      go_wp2_with fail
      refine CF.out.mono ?_
      rintro e w5 ⟨rfl, hbl⟩
      have H5 := Lib.hid (HB0.out.trans ((BW.out.trans (hbl.mono BW.out.size)).mono HB0.out.size))
      clear hbl
      go_wp2_with fail
      go_ret
      exact ⟨by rw [HQ.out]; rfl, H5.out⟩
end Go.Proofs.Ytfadpiipigkocaa
namespace Go.Gz
open Go.RowKit

/-- cells of a block are written, one behind the other. -/
def layCells (w : World) (g : Nat) : Nat → List Value → World
  | _, [] => w
  | o, v :: t => layCells (w.setCell ⟨g, o, none⟩ v) g (o + 1) t
theorem layCells_other (g : Nat) : ∀ (vs : List Value) (o : Nat) (w : World) (k : Nat), k ≠ g → (layCells w g o vs).heap[k]? = w.heap[k]?
  | [], _, _, _, _ => rfl
  | _ :: t, o, _, k, h => (layCells_other g t (o + 1) _ k h).trans (Below.heap_setCell _ _ _ _ h)
theorem layCells_size (g : Nat) : ∀ (vs : List Value) (o : Nat) (w : World), (layCells w g o vs).heap.size = w.heap.size
  | [], _, _ => rfl
  | v :: t, o, w => (layCells_size g t (o + 1) _).trans (by simp [World.setCell])
theorem layCells_below {n : Nat} {W : World} (g : Nat) (hg : n ≤ g) : ∀ (vs : List Value) (o : Nat) (w : World), Below n W w → Below n W (layCells w g o vs)
  | [], _, _, h => h
  | v :: t, o, _, h => layCells_below g hg t (o + 1) _ (h.setCell hg v)
theorem layCell_block {w : World} {b : Nat} {cs : Array Value} {t : TypeId} {fz : Nat × Nat} (h : w.heap[b]? = some (.cells cs t fz)) (i : Nat) (u : Value) : (w.setCell ⟨b, i, none⟩ u).heap[b]? = some (.cells (cs.setIfInBounds i u) t fz) := by
  simp only [World.setCell, Array.getElem?_modify, if_true, h, Option.map_some]
  rfl
theorem layCells_block (g : Nat) (t : TypeId) (fz : Nat × Nat) : ∀ (vs : List Value) (pre : List Value) (post : List Value) (w : World), post.length = vs.length → w.heap[g]? = some (.cells (pre ++ post).toArray t fz) → (layCells w g pre.length vs).heap[g]? = some (.cells (pre ++ vs).toArray t fz)
  | [], pre, post, w, hl, h => by
    obtain rfl : post = [] := List.eq_nil_of_length_eq_zero hl
    exact h
  | v :: r, pre, post, w, hl, h => by
    cases post with
    | nil => simp at hl
    | cons x post =>
      have h1 := layCell_block h pre.length v
      have e : ((pre ++ x :: post).toArray.setIfInBounds pre.length v) = ((pre ++ [v]) ++ post).toArray := by simp
      rw [e] at h1
      have h2 := layCells_block g t fz r (pre ++ [v]) post _ (by simpa using hl) h1
      simp only [List.length_append, List.length_cons, List.length_nil, List.append_assoc, List.cons_append, List.nil_append] at h2
      exact h2
theorem layCells_all {g : Nat} {t : TypeId} {fz : Nat × Nat} {w : World} {cs : List Value} (vs : List Value) (h : w.heap[g]? = some (.cells cs.toArray t fz)) (hl : vs.length = cs.length) : (layCells w g 0 vs).heap[g]? = some (.cells vs.toArray t fz) :=
  layCells_block g t fz vs [] cs w hl.symm (by simpa using h)

/-- one variable that is laid: the places of its alloc, of its store, and of what is stored; its type, its zero cells, the cells of its value. -/
structure Lay where
  a : Nat
  s : Nat
  r : Nat
  t : TypeId
  z : List Value
  v : Value → List Value
def Lay.ptr (b : Nat) : Value := .pointer (some ⟨b, 0, none⟩)
/-- an operation waits for another one. -/
def waitsB (l : List Oper) (i k : Nat) : Bool := match l[i]? with | some o => o.after.any fun e => Region.binds .any e && e.on == k | none => false
def layB (l : List Oper) (ys : List Lay) : Bool :=
  (ys.all fun y => decide (y.a < l.length) && decide (y.s < l.length) && waitsB l y.s y.a && waitsB l y.s y.r) && decide ((ys.map Lay.a ++ ys.map Lay.s).Nodup)
theorem nodup_inj {α β : Type} {f : α → β} : ∀ {ys : List α}, (ys.map f).Nodup → ∀ y ∈ ys, ∀ y' ∈ ys, f y = f y' → y = y'
  | [], _, _, h, _, _, _ => by cases h
  | x :: t, hn, y, hy, y', hy', e => by
    rw [List.map_cons, List.nodup_cons] at hn
    obtain ⟨h1, h2⟩ := hn
    rcases List.mem_cons.1 hy with e1 | g1
    · rcases List.mem_cons.1 hy' with e2 | g2
      · rw [e1, e2]
      · exact absurd (List.mem_map.2 ⟨y', g2, by rw [← e, e1]⟩) h1
    · rcases List.mem_cons.1 hy' with e2 | g2
      · exact absurd (List.mem_map.2 ⟨y, g1, by rw [e, e2]⟩) h1
      · exact nodup_inj h2 y g1 y' g2 e
theorem waits_of {l : List Oper} {i k : Nat} (h : waitsB l i k = true) {o : Oper} (ho : l[i]? = some o) {L : Nat → Bool} (hd : ∀ e ∈ o.after, Region.binds .any e = true → L e.on = true) : L k = true := by
  unfold waitsB at h
  rw [ho] at h
  simp only [Array.any_eq_true, Bool.and_eq_true, beq_iff_eq] at h
  obtain ⟨j, hj, h1, h2⟩ := h
  rw [← h2]
  exact hd _ (Array.getElem_mem hj) h1

/-- y's block, as far as it has come. -/
def LayAt (n : Nat) (L : Nat → Bool) (vals : Nat → Value) (w : World) (y : Lay) : Prop :=
  L y.a = true → ∃ b, vals y.a = Lay.ptr b ∧ n ≤ b ∧ w.heap[b]? = some (.cells (if L y.s then y.v (vals y.r) else y.z).toArray y.t (0, 0))
structure LayI (w0 : World) (vs : List VP) (ys : List Lay) (L : Nat → Bool) (vals : Nat → Value) (w : World) : Prop where
  bel : Below w0.heap.size w0 w
  val : ∀ k, L k = true → (∀ y ∈ ys, y.a ≠ k ∧ y.s ≠ k) → (VP.at vs k).f (vals k) w
  wait : ∀ y ∈ ys, L y.s = true → L y.a = true ∧ L y.r = true
  at_ : ∀ y ∈ ys, LayAt w0.heap.size L vals w y
  ne : ∀ y ∈ ys, ∀ y' ∈ ys, y.a ≠ y'.a → L y.a = true → L y'.a = true → vals y.a ≠ vals y'.a

theorem ptr_inj {a b : Nat} (h : Lay.ptr a = Lay.ptr b) : a = b := by
  unfold Lay.ptr at h
  injection h with h
  injection h with h
  injection h with h

theorem wp_region_lay {P : Program} {id : Nat} {a : Act} {w : World} {l : List Oper} {Q : Exit → Act → World → Prop} (hm : P.follows .mixedOrders = true) (hB : invB l.toArray a.tmps.size = true)
    (vs : List VP) (ys : List Lay) (hY : layB l ys = true)
    (hsta : ∀ k, ∀ y ∈ ys, ∀ v w' b cs cs', (VP.at vs k).f v w' → w'.heap[b]? = some (.cells cs y.t (0, 0)) → w.heap.size ≤ b → (VP.at vs k).f v (layCells w' b 0 cs'))
    (hval : ∀ i o L vals w', l[i]? = some o → L i = false → (∀ e ∈ o.after, Region.binds .any e = true → L e.on = true) → Closed l L → Below w.heap.size w w' → (∀ k, L k = true → (∀ y ∈ ys, y.a ≠ k ∧ y.s ≠ k) → (VP.at vs k).f (vals k) w') → (∀ y ∈ ys, y.a ≠ i ∧ y.s ≠ i) →
      StepI P l.toArray Q i o (frA a l.toArray L vals) w' fun v w'' => (VP.at vs i).f v w'' ∧ Below w'.heap.size w' w'')
    (halloc : ∀ y ∈ ys, ∀ o L vals w', l[y.a]? = some o → StepI P l.toArray Q y.a o (frA a l.toArray L vals) w' fun v w'' => v = Lay.ptr w'.heap.size ∧ w'' = w'.alloc (.cells y.z.toArray y.t))
    (hstore : ∀ y ∈ ys, ∀ o L vals w' b, l[y.s]? = some o → L y.a = true → L y.r = true → Below w.heap.size w w' → (∀ k, L k = true → (∀ y ∈ ys, y.a ≠ k ∧ y.s ≠ k) → (VP.at vs k).f (vals k) w') → vals y.a = Lay.ptr b → w'.heap[b]? = some (.cells y.z.toArray y.t (0, 0)) →
      StepI P l.toArray Q y.s o (frA a l.toArray L vals) w' fun _ w'' => w'' = layCells w' b 0 (y.v (vals y.r)) ∧ (y.v (vals y.r)).length = y.z.length)
    (hend : ∀ vals w', Below w.heap.size w w' → (∀ k, k < l.length → (∀ y ∈ ys, y.a ≠ k ∧ y.s ≠ k) → (VP.at vs k).f (vals k) w') →
      (∀ y ∈ ys, ∃ b, vals y.a = Lay.ptr b ∧ w.heap.size ≤ b ∧ w'.heap[b]? = some (.cells (y.v (vals y.r)).toArray y.t (0, 0))) → (∀ y ∈ ys, ∀ y' ∈ ys, y.a ≠ y'.a → vals y.a ≠ vals y'.a) → Q .normal (putsL vals l 0 a) w') : (Code.region id l.toArray true).wp P Q a w := by
  have hY' := hY
  unfold layB at hY'
  simp only [Bool.and_eq_true, List.all_eq_true, decide_eq_true_eq] at hY'
  obtain ⟨hI1, hN⟩ := hY'
  rw [List.nodup_append] at hN
  obtain ⟨hNa, hNs, hNd⟩ := hN
  have ia := nodup_inj hNa
  have is_ := nodup_inj hNs
  have hne : ∀ y ∈ ys, ∀ y' ∈ ys, y.a ≠ y'.s := fun y hy y' hy' e => hNd _ (List.mem_map.2 ⟨y, hy, rfl⟩) _ (List.mem_map.2 ⟨y', hy', rfl⟩) e
  clear hNa hNs hNd
  refine wp_region_invC hm hB (LayI w vs ys) (fun vals => ⟨(Below.refl _ _).drew, fun k h => (by cases h), fun y _ h => (by cases h), fun y _ h => (by cases h), fun y _ y' _ _ h => (by cases h)⟩) ?_ ?_
  · intro i o L vals w' hi hL hdep hC hI K hK
    -- what was done stays as it was
    have keepV : ∀ v k, L k = true → updV vals i v k = vals k := fun v k hk => by
      unfold updV
      rw [if_neg (fun e => by subst e; rw [hL] at hk; cases hk)]
    have keepL : ∀ k, k ≠ i → updL L i k = L k := fun k hk => by unfold updL; rw [if_neg hk]
    have doneL : ∀ k, L k = true → updL L i k = true := fun k hk => by unfold updL; split <;> simp [hk]
    by_cases hexa : ∃ y ∈ ys, y.a = i
    · obtain ⟨y, hy, rfl⟩ := hexa
      refine halloc y hy o L vals w' hi K fun v w'' ⟨hv, hw⟩ => hK v w'' ?_
      subst hv hw
      have hb' : Below w'.heap.size w' (w'.alloc (.cells y.z.toArray y.t)) := (Below.refl _ _).alloc (Nat.le_refl _) _
      have hnew : (w'.alloc (.cells y.z.toArray y.t)).heap[w'.heap.size]? = some (.cells y.z.toArray y.t (0, 0)) := by show (w'.heap.push _)[w'.heap.size]? = _; simp
      have hno : L y.s = false := by
        cases h : L y.s with
        | false => rfl
        | true => have := (hI.wait y hy h).1; rw [hL] at this; cases this
      refine ⟨hI.bel.trans (hb'.mono hI.bel.size), ?_, ?_, ?_, ?_⟩
      · intro k hk hn
        have hki : k ≠ y.a := fun e => (hn y hy).1 e.symm
        rw [keepL k hki] at hk
        rw [keepV _ k hk]
        exact (VP.at vs k).hf _ _ _ (hI.val k hk hn) hb'
      · intro y' hy' hs
        rw [keepL _ (fun e => hne y hy y' hy' e.symm)] at hs
        obtain ⟨h2, h3⟩ := hI.wait y' hy' hs
        exact ⟨doneL _ h2, doneL _ h3⟩
      · intro y' hy' ha
        have hs' : updL L y.a y'.s = L y'.s := keepL _ (fun e => hne y hy y' hy' e.symm)
        by_cases e : y'.a = y.a
        · obtain rfl := ia y' hy' y hy e
          refine ⟨w'.heap.size, ?_, hI.bel.size, ?_⟩
          · unfold updV; rw [if_pos rfl]
          · rw [hs', hno]; exact hnew
        · rw [keepL _ e] at ha
          obtain ⟨b, h1, h2, h3⟩ := hI.at_ y' hy' ha
          refine ⟨b, by rw [keepV _ _ ha]; exact h1, h2, ?_⟩
          rw [hb'.block b (Array.getElem?_eq_some_iff.1 h3).1, h3, hs']
          by_cases hd : L y'.s = true
          · rw [keepV _ _ (hI.wait y' hy' hd).2]
          · rw [if_neg hd, if_neg hd]
      · intro y1 hy1 y2 hy2 hne12 h1 h2
        by_cases e1 : y1.a = y.a
        · have e2 : y2.a ≠ y.a := fun e => hne12 (e1.trans e.symm)
          rw [keepL _ e2] at h2
          rw [keepV _ _ h2, e1]
          unfold updV
          rw [if_pos rfl]
          obtain ⟨b, g1, g2, g3⟩ := hI.at_ y2 hy2 h2
          rw [g1]
          intro e
          have := ptr_inj e
          have := (Array.getElem?_eq_some_iff.1 g3).1
          omega
        · rw [keepL _ e1] at h1
          rw [keepV _ _ h1]
          obtain ⟨b, g1, g2, g3⟩ := hI.at_ y1 hy1 h1
          by_cases e2 : y2.a = y.a
          · rw [e2]
            unfold updV
            rw [if_pos rfl, g1]
            intro e
            have := ptr_inj e
            have := (Array.getElem?_eq_some_iff.1 g3).1
            omega
          · rw [keepL _ e2] at h2
            rw [keepV _ _ h2]
            exact hI.ne y1 hy1 y2 hy2 hne12 h1 h2
    · by_cases hexs : ∃ y ∈ ys, y.s = i
      · obtain ⟨y, hy, rfl⟩ := hexs
        have hda := waits_of (hI1 y hy).1.2 hi hdep
        have hdr := waits_of (hI1 y hy).2 hi hdep
        obtain ⟨b, g1, g2, g3⟩ := hI.at_ y hy hda
        rw [if_neg (by rw [hL]; exact Bool.false_ne_true)] at g3
        refine hstore y hy o L vals w' b hi hda hdr hI.bel hI.val g1 g3 K fun v w'' ⟨hw, hlen⟩ => hK v w'' ?_
        subst hw
        refine ⟨layCells_below b g2 _ _ _ hI.bel, ?_, ?_, ?_, ?_⟩
        · intro k hk hn
          have hki : k ≠ y.s := fun e => (hn y hy).2 e.symm
          rw [keepL k hki] at hk
          rw [keepV _ k hk]
          exact hsta k y hy _ _ _ _ _ (hI.val k hk hn) g3 g2
        · intro y' hy' hs
          by_cases e : y'.s = y.s
          · obtain rfl := is_ y' hy' y hy e
            exact ⟨doneL _ hda, doneL _ hdr⟩
          · rw [keepL _ e] at hs
            obtain ⟨h2, h3⟩ := hI.wait y' hy' hs
            exact ⟨doneL _ h2, doneL _ h3⟩
        · intro y' hy' ha
          rw [keepL _ (hne y' hy' y hy)] at ha
          by_cases e : y'.s = y.s
          · obtain rfl := is_ y' hy' y hy e
            refine ⟨b, by rw [keepV _ _ ha]; exact g1, g2, ?_⟩
            rw [if_pos (by unfold updL; rw [if_pos rfl]), keepV _ _ hdr]
            exact layCells_all _ g3 hlen
          · obtain ⟨b', h1, h2, h3⟩ := hI.at_ y' hy' ha
            have hbb : b' ≠ b := fun eb => by
              refine hI.ne y' hy' y hy (fun ea => e ?_) ha hda (by rw [h1, g1, eb])
              rw [ia y' hy' y hy ea]
            refine ⟨b', by rw [keepV _ _ ha]; exact h1, h2, ?_⟩
            rw [layCells_other _ _ _ _ _ hbb, h3, keepL _ e]
            by_cases hd : L y'.s = true
            · rw [keepV _ _ (hI.wait y' hy' hd).2]
            · rw [if_neg hd, if_neg hd]
        · intro y1 hy1 y2 hy2 hne12 h1 h2
          rw [keepL _ (hne y1 hy1 y hy)] at h1
          rw [keepL _ (hne y2 hy2 y hy)] at h2
          rw [keepV _ _ h1, keepV _ _ h2]
          exact hI.ne y1 hy1 y2 hy2 hne12 h1 h2
      · have hn' : ∀ y ∈ ys, y.a ≠ i ∧ y.s ≠ i := fun y hy => ⟨fun e => hexa ⟨y, hy, e⟩, fun e => hexs ⟨y, hy, e⟩⟩
        refine hval i o L vals w' hi hL hdep hC hI.bel hI.val hn' K fun v w'' ⟨hv, hb'⟩ => hK v w'' ?_
        refine ⟨hI.bel.trans (hb'.mono hI.bel.size), ?_, ?_, ?_, ?_⟩
        · intro k hk hn
          by_cases e : k = i
          · subst e
            unfold updV
            rw [if_pos rfl]
            exact hv
          · rw [keepL k e] at hk
            rw [keepV _ k hk]
            exact (VP.at vs k).hf _ _ _ (hI.val k hk hn) hb'
        · intro y' hy' hs
          rw [keepL _ (hn' y' hy').2] at hs
          obtain ⟨h2, h3⟩ := hI.wait y' hy' hs
          exact ⟨doneL _ h2, doneL _ h3⟩
        · intro y' hy' ha
          rw [keepL _ (hn' y' hy').1] at ha
          obtain ⟨b, h1, h2, h3⟩ := hI.at_ y' hy' ha
          refine ⟨b, by rw [keepV _ _ ha]; exact h1, h2, ?_⟩
          rw [hb'.block b (Array.getElem?_eq_some_iff.1 h3).1, h3, keepL _ (hn' y' hy').2]
          by_cases hd : L y'.s = true
          · rw [keepV _ _ (hI.wait y' hy' hd).2]
          · rw [if_neg hd, if_neg hd]
        · intro y1 hy1 y2 hy2 hne12 h1 h2
          rw [keepL _ (hn' y1 hy1).1] at h1
          rw [keepL _ (hn' y2 hy2).1] at h2
          rw [keepV _ _ h1, keepV _ _ h2]
          exact hI.ne y1 hy1 y2 hy2 hne12 h1 h2
  · intro vals w' hI
    refine hend vals w' hI.bel (fun k hk hn => hI.val k (by simpa using hk) hn) (fun y hy => ?_) (fun y hy y' hy' hne => hI.ne y hy y' hy' hne (by simpa using (hI1 y hy).1.1.1) (by simpa using (hI1 y' hy').1.1.1))
    obtain ⟨b, h1, h2, h3⟩ := hI.at_ y hy (by simpa using (hI1 y hy).1.1.1)
    refine ⟨b, h1, h2, ?_⟩
    rw [h3, if_pos (by simpa using (hI1 y hy).1.1.2)]

/-- .. where what is reckoned is known, whatever the world is. -/
def VP.opt : Option Value → VP | some x => VP.eq x | none => VP.any
theorem VP.opt_eq (os : List (Option Value)) (k : Nat) (v : Value) (w : World) : (VP.at (os.map VP.opt) k).f v w ↔ EqV os k v := by
  unfold VP.at EqV
  rw [List.getElem?_map]
  cases h : os[k]? with
  | none => simp [VP.any]
  | some o => cases o <;> simp [VP.opt, VP.any, VP.eq, eq_comm]
def layN (os : List (Option Value)) (ys : List Lay) : Bool := ys.all fun y => (match os[y.a]? with | some none => true | _ => false) && (match os[y.s]? with | some none => true | _ => false)
theorem wp_region_layE {P : Program} {id : Nat} {a : Act} {w : World} {l : List Oper} {Q : Exit → Act → World → Prop} (hm : P.follows .mixedOrders = true) (hB : invB l.toArray a.tmps.size = true)
    (os : List (Option Value)) (ys : List Lay) (hY : layB l ys = true) (hN : layN os ys = true)
    (hval : ∀ i o L vals w', l[i]? = some o → L i = false → (∀ e ∈ o.after, Region.binds .any e = true → L e.on = true) → Closed l L → Below w.heap.size w w' → (∀ k, L k = true → EqV os k (vals k)) → (∀ y ∈ ys, y.a ≠ i ∧ y.s ≠ i) →
      StepI P l.toArray Q i o (frA a l.toArray L vals) w' fun v w'' => EqV os i v ∧ Below w'.heap.size w' w'')
    (halloc : ∀ y ∈ ys, ∀ o L vals w', l[y.a]? = some o → StepI P l.toArray Q y.a o (frA a l.toArray L vals) w' fun v w'' => v = Lay.ptr w'.heap.size ∧ w'' = w'.alloc (.cells y.z.toArray y.t))
    (hstore : ∀ y ∈ ys, ∀ o L vals w' b, l[y.s]? = some o → L y.a = true → L y.r = true → Below w.heap.size w w' → (∀ k, L k = true → EqV os k (vals k)) → vals y.a = Lay.ptr b → w'.heap[b]? = some (.cells y.z.toArray y.t (0, 0)) →
      StepI P l.toArray Q y.s o (frA a l.toArray L vals) w' fun _ w'' => w'' = layCells w' b 0 (y.v (vals y.r)) ∧ (y.v (vals y.r)).length = y.z.length)
    (hend : ∀ vals w', Below w.heap.size w w' → (∀ k, k < l.length → EqV os k (vals k)) →
      (∀ y ∈ ys, ∃ b, vals y.a = Lay.ptr b ∧ w.heap.size ≤ b ∧ w'.heap[b]? = some (.cells (y.v (vals y.r)).toArray y.t (0, 0))) → (∀ y ∈ ys, ∀ y' ∈ ys, y.a ≠ y'.a → vals y.a ≠ vals y'.a) → Q .normal (putsL vals l 0 a) w') : (Code.region id l.toArray true).wp P Q a w := by
  have hN' : ∀ y ∈ ys, os[y.a]? = some none ∧ os[y.s]? = some none := fun y hy => by
    unfold layN at hN
    have := List.all_eq_true.1 hN y hy
    rw [Bool.and_eq_true] at this
    obtain ⟨h1, h2⟩ := this
    constructor
    · revert h1; split <;> simp_all
    · revert h2; split <;> simp_all
  have hall : ∀ {L : Nat → Bool} {vals : Nat → Value} {w' : World}, (∀ k, L k = true → (∀ y ∈ ys, y.a ≠ k ∧ y.s ≠ k) → (VP.at (os.map VP.opt) k).f (vals k) w') → ∀ k, L k = true → EqV os k (vals k) := fun h k hk => by
    by_cases hx : ∀ y ∈ ys, y.a ≠ k ∧ y.s ≠ k
    · exact (VP.opt_eq _ _ _ _).1 (h k hk hx)
    · have ⟨y, hy⟩ := Classical.not_forall.1 hx
      have ⟨hy, hn⟩ := Classical.not_imp.1 hy
      by_cases e : y.a = k
      · exact EqV.no (e ▸ (hN' y hy).1)
      · by_cases e' : y.s = k
        · exact EqV.no (e' ▸ (hN' y hy).2)
        · exact absurd ⟨e, e'⟩ hn
  refine wp_region_lay hm hB (os.map VP.opt) ys hY (fun k y _ v w' b cs cs' h _ _ => (VP.opt_eq _ _ _ _).2 ((VP.opt_eq _ _ _ _).1 h)) ?_ halloc ?_ ?_
  · intro i o L vals w' hi hL hdep hC hb hv hn K hK
    exact hval i o L vals w' hi hL hdep hC hb (hall hv) hn K fun v w'' h => hK v w'' ⟨(VP.opt_eq _ _ _ _).2 h.1, h.2⟩
  · intro y hy o L vals w' b hi h1 h2 hb hv
    exact hstore y hy o L vals w' b hi h1 h2 hb (hall hv)
  · intro vals w' hb hv
    exact hend vals w' hb fun k hk => hall (L := fun k => decide (k < l.length)) (w' := w') (fun k hk => hv k (by simpa using hk)) k (by simpa using hk)
end Go.Gz
namespace Go.Gz
open Go.RowKit

section
variable {α : Type} [Inhabited α] {K : SK α} {t : TypeId} {B : Nat} {v0 : Value} {X M : List α}
structure AppI (K : SK α) (t : TypeId) (B : Nat) (v0 : Value) (X M : List α) (w : World) (o fi : Nat) (cs : Array Value) (tq : TypeId) (fz : Nat × Nat) (bi ai si : Nat) (os : List (Option Value)) (L : Nat → Bool) (vals : Nat → Value) (w' : World) : Prop where
  kept : KeptF (fun j => j = o ∨ v0.ownBlock = some j) w w'
  obj : w'.heap[o]? = some (.cells (if L si then cs.setIfInBounds fi (vals ai) else cs) tq fz)
  old : L ai = false → OwnK K w' B t v0 X
  bld : L bi = true → ∃ b, vals bi = .slice (some ⟨b, 0, none⟩) M.length M.length ∧ (L ai = false → RowK K w' (some ⟨b, 0, none⟩) M)
  new : L ai = true → OwnK K w' B t (vals ai) (X ++ M) ∧ (vals ai).ownBlock ≠ some o
  ord : (L si = true → L ai = true) ∧ (L ai = true → L bi = true)
  val : ∀ k, L k = true → EqV os k (vals k)

theorem wp_region_app {P : Program} {id : Nat} {a : Act} {w : World} {l : List Oper} {Q : Exit → Act → World → Prop} (hm : P.follows .mixedOrders = true) (hB : invB l.toArray a.tmps.size = true)
    (os : List (Option Value)) (bi ai si : Nat) (hw1 : waitsB l si ai = true) (hw2 : waitsB l ai bi = true) (hne : ai ≠ bi ∧ si ≠ ai ∧ si ≠ bi) (hsz : bi < l.length ∧ ai < l.length ∧ si < l.length)
    (hos : os[bi]? = some none ∧ os[ai]? = some none ∧ os[si]? = some none)
    (o fi : Nat) (cs : Array Value) (tq : TypeId) (fz : Nat × Nat) (ho : w.heap[o]? = some (.cells cs tq fz)) (hog : v0.ownBlock ≠ some o) (hown : OwnK K w B t v0 X) (hBw : B ≤ w.heap.size)
    (hread : ∀ i opr L vals w', l[i]? = some opr → L i = false → (∀ e ∈ opr.after, Region.binds .any e = true → L e.on = true) → Closed l L → KeptF (fun j => j = o ∨ v0.ownBlock = some j) w w' → (L si = false → w'.heap[o]? = some (.cells cs tq fz)) → (∀ k, L k = true → EqV os k (vals k)) → i ≠ bi → i ≠ ai → i ≠ si →
      StepI P l.toArray Q i opr (frA a l.toArray L vals) w' fun v w'' => EqV os i v ∧ w'' = w')
    (hbuild : ∀ opr L vals w', l[bi]? = some opr → (∀ e ∈ opr.after, Region.binds .any e = true → L e.on = true) → Closed l L → (∀ k, L k = true → EqV os k (vals k)) →
      StepI P l.toArray Q bi opr (frA a l.toArray L vals) w' fun v w'' => v = .slice (some ⟨w'.heap.size, 0, none⟩) M.length M.length ∧ w'' = w'.alloc (.cells (K.flat M).toArray t))
    (happ : ∀ opr L vals w' b, l[ai]? = some opr → (∀ e ∈ opr.after, Region.binds .any e = true → L e.on = true) → Closed l L → L bi = true → (∀ k, L k = true → EqV os k (vals k)) → vals bi = .slice (some ⟨b, 0, none⟩) M.length M.length → RowK K w' (some ⟨b, 0, none⟩) M → OwnK K w' B t v0 X → B ≤ w'.heap.size →
      StepI P l.toArray Q ai opr (frA a l.toArray L vals) w' fun v w'' => OwnK K w'' B t v (X ++ M) ∧ w'.grownBy w'' v0.ownBlock ∧ (v.ownBlock = v0.ownBlock ∨ v.ownBlock = some w'.heap.size))
    (hstore : ∀ opr L vals w' q c, l[si]? = some opr → (∀ e ∈ opr.after, Region.binds .any e = true → L e.on = true) → Closed l L → L ai = true → (∀ k, L k = true → EqV os k (vals k)) → vals ai = .slice q (X ++ M).length c → w'.heap[o]? = some (.cells cs tq fz) →
      StepI P l.toArray Q si opr (frA a l.toArray L vals) w' fun _ w'' => w'' = w'.setCell ⟨o, fi, none⟩ (.slice q (X ++ M).length c))
    (hend : ∀ vals w', KeptF (fun j => j = o ∨ v0.ownBlock = some j) w w' → w'.heap[o]? = some (.cells (cs.setIfInBounds fi (vals ai)) tq fz) → OwnK K w' B t (vals ai) (X ++ M) → (∀ k, k < l.length → EqV os k (vals k)) → Q .normal (putsL vals l 0 a) w') : (Code.region id l.toArray true).wp P Q a w := by
  have hol : o < w.heap.size := (Array.getElem?_eq_some_iff.1 ho).1
  refine wp_region_invC hm hB (AppI K t B v0 X M w o fi cs tq fz bi ai si os) (fun vals => ⟨(KeptF.refl _ _).drew, ?_, fun _ => hown, fun h => (by cases h), fun h => (by cases h), ⟨fun h => (by cases h), fun h => (by cases h)⟩, fun k h => (by cases h)⟩) ?_ ?_
  · rw [if_neg (by simp)]; exact ho
  · intro i opr L vals w' hi hL hdep hC hI J hJ
    have keepV : ∀ v k, L k = true → updV vals i v k = vals k := fun v k hk => by
      unfold updV
      rw [if_neg (fun e => by subst e; rw [hL] at hk; cases hk)]
    have keepL : ∀ k, k ≠ i → updL L i k = L k := fun k hk => by unfold updL; rw [if_neg hk]
    have doneL : ∀ k, L k = true → updL L i k = true := fun k hk => by unfold updL; split <;> simp [hk]
    have selfL : updL L i i = true := by unfold updL; rw [if_pos rfl]
    have selfV : ∀ v, updV vals i v i = v := fun v => by unfold updV; rw [if_pos rfl]
    have vstep : ∀ v, EqV os i v → ∀ k, updL L i k = true → EqV os k (updV vals i v k) := fun v hv k hk => by
      by_cases e : k = i
      · subst e; rw [selfV]; exact hv
      · rw [keepL k e] at hk; rw [keepV _ k hk]; exact hI.val k hk
    have notT : ∀ {b : Bool}, ¬ b = true → b = false := fun h => by simpa using h
    by_cases hb : i = bi
    · subst hb
      have hna : L ai = false := notT fun h => by have := hI.ord.2 h; rw [hL] at this; cases this
      have hns : L si = false := notT fun h => by have := hI.ord.1 h; rw [hna] at this; cases this
      refine hbuild opr L vals w' hi hdep hC hI.val J fun v w'' ⟨hv, hw⟩ => hJ v w'' ?_
      subst hv hw
      have hb' : Below w'.heap.size w' (w'.alloc (.cells (K.flat M).toArray t)) := (Below.refl _ _).alloc (Nat.le_refl _) _
      refine ⟨hI.kept.alloc _, ?_, fun _ => (hI.old hna).alloc _, fun _ => ⟨w'.heap.size, selfV _, fun _ => RowK.block K (alloc_at _ _)⟩, fun h => ?_, ⟨fun h => ?_, fun _ => selfL⟩, vstep _ (EqV.no hos.1)⟩
      · rw [keepL _ hne.2.2, hns, if_neg (by simp), hb'.block o (by have := hI.kept.size; omega), hI.obj, hns, if_neg (by simp)]
      · rw [keepL _ hne.1, hna] at h; cases h
      · rw [keepL _ hne.2.2, hns] at h; cases h
    · by_cases ha : i = ai
      · subst ha
        have hbi := waits_of hw2 hi hdep
        obtain ⟨b, h1, h2⟩ := hI.bld hbi
        have hns : L si = false := notT fun h => by have := hI.ord.1 h; rw [hL] at this; cases this
        refine happ opr L vals w' b hi hdep hC hbi hI.val h1 (h2 hL) (hI.old hL) (Nat.le_trans hBw hI.kept.size) J fun v w'' ⟨h3, h4, h5⟩ => hJ v w'' ?_
        have hk2 : KeptF (fun k => v0.ownBlock = some k) w' w'' := KeptF.grown h4 fun g h => h
        refine ⟨hI.kept.trans hk2 fun i _ h => Or.inr h, ?_, fun h => ?_, fun _ => ⟨b, by rw [keepV _ _ hbi]; exact h1, fun h => ?_⟩, fun _ => ?_, ⟨fun _ => selfL, fun _ => doneL _ hbi⟩, vstep _ (EqV.no hos.2.1)⟩
        · rw [keepL _ hne.2.1, hns, if_neg (by simp), hk2.block o (by have := hI.kept.size; omega) (fun h => hog h), hI.obj, hns, if_neg (by simp)]
        · rw [selfL] at h; cases h
        · rw [selfL] at h; cases h
        · rw [selfV]
          refine ⟨h3, ?_⟩
          rcases h5 with h5 | h5
          · rw [h5]; exact hog
          · rw [h5]
            intro e
            injection e with e
            have := hI.kept.size
            omega
      · by_cases hs : i = si
        · subst hs
          have hai := waits_of hw1 hi hdep
          obtain ⟨h1, h2⟩ := hI.new hai
          obtain ⟨q, c, hv, -⟩ := h1.row
          have hob := hI.obj
          rw [hL, if_neg (by simp)] at hob
          refine hstore opr L vals w' q c hi hdep hC hai hI.val hv hob J fun v w'' hw => hJ v w'' ?_
          subst hw
          rw [← hv]
          refine ⟨hI.kept.set (Or.inl rfl) _, ?_, fun h => ?_, fun _ => ?_, fun _ => ?_, ⟨fun _ => doneL _ hai, fun _ => doneL _ (hI.ord.2 hai)⟩, vstep _ (EqV.no hos.2.2)⟩
          · rw [selfL, if_pos rfl, keepV _ _ hai]
            exact layCell_block hob fi _
          · rw [keepL _ (Ne.symm hne.2.1), hai] at h; cases h
          · obtain ⟨b, g1, g2⟩ := hI.bld (hI.ord.2 hai)
            refine ⟨b, by rw [keepV _ _ (hI.ord.2 hai)]; exact g1, fun h => ?_⟩
            rw [keepL _ (Ne.symm hne.2.1), hai] at h; cases h
          · rw [keepV _ _ hai]
            exact ⟨h1.setCell h2 _, h2⟩
        · refine hread i opr L vals w' hi hL hdep hC hI.kept (fun h => by have := hI.obj; rw [h, if_neg (by simp)] at this; exact this) hI.val hb ha hs J fun v w'' ⟨hv, hw⟩ => hJ v w'' ?_
          subst hw
          refine ⟨hI.kept, ?_, fun h => ?_, fun h => ?_, fun h => ?_, ?_, vstep _ hv⟩
          · rw [keepL _ (Ne.symm hs)]
            by_cases h : L si = true
            · rw [keepV _ _ (hI.ord.1 h)]; exact hI.obj
            · have := hI.obj; rw [if_neg h] at this ⊢; exact this
          · rw [keepL _ (Ne.symm ha)] at h; exact hI.old h
          · rw [keepL _ (Ne.symm hb)] at h
            obtain ⟨b, g1, g2⟩ := hI.bld h
            exact ⟨b, by rw [keepV _ _ h]; exact g1, fun h' => by rw [keepL _ (Ne.symm ha)] at h'; exact g2 h'⟩
          · rw [keepL _ (Ne.symm ha)] at h
            rw [keepV _ _ h]
            exact hI.new h
          · rw [keepL _ (Ne.symm hs), keepL _ (Ne.symm ha), keepL _ (Ne.symm hb)]
            exact hI.ord
  · intro vals w' hI
    have hsi : (fun i => decide (i < l.length)) si = true := by simpa using hsz.2.2
    have hai : (fun i => decide (i < l.length)) ai = true := by simpa using hsz.2.1
    have hob := hI.obj
    rw [if_pos hsi] at hob
    exact hend vals w' hI.kept hob (hI.new hai).1 fun k hk => hI.val k (by simpa using hk)
end
end Go.Gz
namespace Go.Proofs.Ytfadpiipigkocaa
open Go.RowKit Go.Gz

set_option maxHeartbeats 8000000 in
set_option maxRecDepth 100000 in
theorem atmade_any (w : World) (ep : Int) (L : List Sd) (p : Option Addr) (ca : Nat) (hp : RowK KS w p L) (hL : L.length ≤ 1000000) :
    Calls Try.prog 21 #[.agg #[.int .i64 ep, .slice p L.length ca]] w (RetA w 70 ep L) := by
  obtain ⟨n, hN⟩ : ∃ n, L.length = n := ⟨_, rfl⟩
  have HN := Lib.hid hN
  rw [hN] at hL ⊢
  obtain ⟨w0, hw0⟩ : ∃ w0, ((w.alloc (.cells #[.int .i64 ep, .slice p n ca] 33)).alloc (.cells #[.int .i64 0, .slice none 0 0] 41)).alloc (.cells #[.int .i64 ep, .slice none 0 0] 41) = w0 := ⟨_, rfl⟩
  have HB0 := Lib.hid (show Below w.heap.size w w0 from hw0 ▸ (((Below.refl _ _).alloc (Nat.le_refl _) _).alloc (by simp) _).alloc (by simp; omega) _)
  have hz0 : w0.heap.size = w.heap.size + 3 := by rw [← hw0]; simp
  have HZ := Lib.hid hz0
  have HBX := Lib.hid (show BoxA w0 w.heap.size ep (.slice p n ca) from hw0 ▸ ((BoxA.new w _ _ _).below (below_alloc _ _)).below (below_alloc _ _))
  have HR := Lib.hid (hp.below HB0.out)
  have HPB := Lib.hid (show ∀ a, p = some a → a.block < w.heap.size ∨ L = [] from fun a ha => by
    rcases hp with h | ⟨b, off, hp, hlt, _⟩
    · exact Or.inr h
    · rw [ha] at hp; injection hp with hp; exact Or.inl (by rw [hp]; exact hlt))
  have hnb : w0.heap[w.heap.size + 1 + 1]? = some (.cells #[.int .i64 ep, .slice none 0 0] 41 (0, 0)) := by
    have := alloc_at ((w.alloc (.cells #[.int .i64 ep, .slice p n ca] 33)).alloc (.cells #[.int .i64 0, .slice none 0 0] 41)) (.cells #[.int .i64 ep, .slice none 0 0] 41)
    rw [hw0] at this
    simpa using this
  have HRS := Lib.hid (show w0.cell? ⟨w.heap.size + 1, 0, none⟩ = some (.int .i64 0) ∧ w0.cell? ⟨w.heap.size + 1, 1, none⟩ = some (.slice none 0 0) ∧ w0.frozen? ⟨w.heap.size + 1, 0, none⟩ = false ∧ w0.frozen? ⟨w.heap.size + 1, 1, none⟩ = false ∧ w0.heap[w.heap.size + 1]? = some (.cells #[.int .i64 0, .slice none 0 0] 41 (0, 0)) by
    rw [← hw0]
    exact ⟨by simp [go_sem], by simp [go_sem], by simp [go_sem], by simp [go_sem], by rw [Below.heap_alloc _ _ _ (by simp)]; have := alloc_at (w.alloc (.cells #[.int .i64 ep, .slice p n ca] 33)) (.cells #[.int .i64 0, .slice none 0 0] 41); simpa using this⟩)
  have HST := Lib.hid (show MdI w0 70 ep (w.heap.size + 1 + 1) L 0 w0 from ⟨KeptF.refl _ _, _, hnb, OwnK.nil KS _ _ _⟩)
  have HW0 := Lib.hid hw0
  clear hnb hN hp hz0 hw0
  go_enter Try.func21, Try.ntmps21
  go_wp2_with fail
  rw [HW0.out]
  go_loopw [4] (fun i wr => ∃ k : Nat, i = .int .i64 k ∧ k ≤ n ∧ Hid (MdI w0 70 ep (w.heap.size + 1 + 1) L k wr)) (fun i _ => n - (RowKit.intOf i).toNat)
  case atStart => exact ⟨0, rfl, Nat.zero_le _, HST⟩
  case round =>
    obtain ⟨k, rfl, hkn, HI⟩ := hrel
    obtain ⟨hkb, kx0, kx1⟩ := HBX.out
    have x0 := (HI.out.kept.cell (p := ⟨w.heap.size, 0, none⟩) hkb (by show ¬ w.heap.size = _; omega)).trans kx0
    have x1 := (HI.out.kept.cell (p := ⟨w.heap.size, 1, none⟩) hkb (by show ¬ w.heap.size = _; omega)).trans kx1
    clear kx0 kx1
    rcases Nat.lt_or_ge k n with hk | hk
    · have hkz : (k : Int) < (n : Int) := by omega
      have hklt : k < L.length := by rw [HN.out]; exact hk
      obtain ⟨e, he⟩ : ∃ e, L.getD k default = e := ⟨_, rfl⟩
      have hRr : RowK KS wr p L := HR.out.kept HI.out.kept (fun a ha => by
        rcases HPB.out a ha with h1 | h1
        · show ¬ a.block = _
          omega
        · rw [h1] at hklt; simp at hklt)
      obtain ⟨pb, po, rfl, hpb, hcell⟩ := hRr.cells (Below.refl _ _) hklt
      rw [he] at hcell
      have HTK := Lib.hid (show L.take (k + 1) = L.take k ++ [e] by
        rw [List.take_succ_eq_append_getElem hklt, ← he]
        simp [List.getD, hklt])
      have HLK := Lib.hid (show (L.take k).length = k by rw [List.length_take]; omega)
      obtain ⟨v, hv, hown⟩ := HI.out.row
      have HOW := Lib.hid hown
      have HV := Lib.hid hv
      have o1 : wr.cell? ⟨w.heap.size + 1 + 1, 1, none⟩ = some v := by simp [World.cell?, hv]
      have hzr := HI.out.kept.size
      have HON := Lib.hid (show ∀ w3 : World, RowK KS (w3.alloc (.cells #[.string e.sp.f, .string e.sp.t, .int .i64 e.n, .int .i64 e.e] 70)) (some ⟨w3.heap.size, 0, none⟩) [e] from fun w3 => RowK.block KS (L := [e]) (alloc_at w3 _))
      obtain ⟨⟨ef, et⟩, en, ee⟩ := e
      have z0 := hcell 0 (by decide)
      have z1 := hcell 1 (by decide)
      have z2 := hcell 2 (by decide)
      have z3 := hcell 3 (by decide)
      simp only [KS, Nat.add_zero] at z0 z1 z2 z3
      clear hcell he hv hown hRr
      have hpos : (0 : Int) ≤ (k : Int) := by omega
      go_upto_region 5 with fail
      obtain ⟨q, c, rfl, _⟩ := HOW.out.row
      have HNO := Lib.hid (show ∀ g, (Value.slice q (L.take k).length c).ownBlock = some g → w0.heap.size ≤ g from fun g hg => (HOW.out.ltB g hg).1)
      have HX := Lib.hid x1
      have HZ4 := Lib.hid (And.intro z0 (And.intro z1 (And.intro z2 z3)))
      have HKN := Lib.hid hkz
      have HF1 := Lib.hid (show w.heap.size < wr.heap.size ∧ ¬ (w.heap.size = w.heap.size + 1 + 1 ∨ (Value.slice q (L.take k).length c).ownBlock = some w.heap.size) from ⟨by have := HZ.out; omega, fun h => by
        rcases h with h | h
        · omega
        · have := HNO.out _ h; have := HZ.out; omega⟩)
      have HF2 := Lib.hid (show pb < wr.heap.size ∧ ¬ (pb = w.heap.size + 1 + 1 ∨ (Value.slice q (L.take k).length c).ownBlock = some pb) from ⟨hpb, fun h => by
        rcases HPB.out _ rfl with h1 | h1
        · have h1 : pb < w.heap.size := h1
          rcases h with h | h
          · omega
          · have := HNO.out _ h; have := HZ.out; omega
        · rw [h1] at hklt; simp at hklt⟩)
      clear x0 x1 z0 z1 z2 z3 o1
      refine wp_region_app mixedAt (by kernel_rfl) (K := KS) (t := 70) (B := w0.heap.size) (v0 := (.slice q (L.take k).length c)) (X := (L.take k)) (M := [⟨⟨ef, et⟩, en, ee⟩])
        [some (.pointer (some ⟨w.heap.size + 1 + 1, 1, none⟩)), some (.slice q (L.take k).length c), some (.pointer (some ⟨w.heap.size, 1, none⟩)), some (.slice (some ⟨pb, po, none⟩) n ca), some (.int .i64 k), some (.pointer (some ⟨pb, po + k * 4, none⟩)), some (.pointer (some ⟨pb, po + k * 4, none⟩)), some (.agg #[.string ef, .string et]), some (.pointer (some ⟨w.heap.size, 1, none⟩)), some (.slice (some ⟨pb, po, none⟩) n ca), some (.int .i64 k), some (.pointer (some ⟨pb, po + k * 4, none⟩)), some (.pointer (some ⟨pb, po + k * 4 + 2, none⟩)), some (.int .i64 en), some (.pointer (some ⟨w.heap.size, 1, none⟩)), some (.slice (some ⟨pb, po, none⟩) n ca), some (.int .i64 k), some (.pointer (some ⟨pb, po + k * 4, none⟩)), some (.pointer (some ⟨pb, po + k * 4 + 3, none⟩)), some (.int .i64 ee), some (.agg #[.string ef, .string et, .int .i64 en, .int .i64 ee]), none, none, some (.pointer (some ⟨w.heap.size + 1 + 1, 1, none⟩)), none]
        21 22 24 (by kernel_rfl) (by kernel_rfl) (by decide) (by decide) ⟨rfl, rfl, rfl⟩ (w.heap.size + 1 + 1) 1 #[.int .i64 ep, .slice q (L.take k).length c] 41 (0, 0) HV.out (fun e => by have := HNO.out _ e; have := HZ.out; omega) HOW.out HI.out.kept.size ?_ ?_ ?_ ?_ ?_
      · intro i opr Ls vals w' hi hL hdep hC hK hob hV n1 n2 n3
        have hlt : i < 25 := by have := (List.getElem?_eq_some_iff.1 hi).1; simpa using this
        generalize hA : frA _ _ Ls vals = a'
        have hT1 : a'.tmps.getD 1 undef = .pointer (some ⟨w.heap.size, 0, none⟩) := by rw [← hA, frA_base (by kernel_rfl)]; rfl
        have hT3 : a'.tmps.getD 3 undef = .pointer (some ⟨w.heap.size + 1 + 1, 0, none⟩) := by rw [← hA, frA_base (by kernel_rfl)]; rfl
        have hT4 : a'.tmps.getD 4 undef = .int .i64 k := by rw [← hA, frA_base (by kernel_rfl)]; rfl
        have hD := Lib.hid (fun k t (hk : Ls k = true) (ht : dstOf _ k = some t) => hA ▸ frA_done (by kernel_rfl) (vals := vals) hk ht)
        clear hA
        have x1' := (hK.cell (p := ⟨w.heap.size, 1, none⟩) HF1.out.1 HF1.out.2).trans HX.out
        have z0' := (hK.cell (p := ⟨pb, po + k * 4, none⟩) HF2.out.1 HF2.out.2).trans HZ4.out.1
        have z1' := (hK.cell (p := ⟨pb, po + k * 4 + 1, none⟩) HF2.out.1 HF2.out.2).trans HZ4.out.2.1
        have z2' := (hK.cell (p := ⟨pb, po + k * 4 + 2, none⟩) HF2.out.1 HF2.out.2).trans HZ4.out.2.2.1
        have z3' := (hK.cell (p := ⟨pb, po + k * 4 + 3, none⟩) HF2.out.1 HF2.out.2).trans HZ4.out.2.2.2
        have hkn' : (k : Int) < (n : Int) := HKN.out
        obtain rfl | rfl | rfl | rfl | rfl | rfl | rfl | rfl | rfl | rfl | rfl | rfl | rfl | rfl | rfl | rfl | rfl | rfl | rfl | rfl | rfl | rfl : i = 0 ∨ i = 1 ∨ i = 2 ∨ i = 3 ∨ i = 4 ∨ i = 5 ∨ i = 6 ∨ i = 7 ∨ i = 8 ∨ i = 9 ∨ i = 10 ∨ i = 11 ∨ i = 12 ∨ i = 13 ∨ i = 14 ∨ i = 15 ∨ i = 16 ∨ i = 17 ∨ i = 18 ∨ i = 19 ∨ i = 20 ∨ i = 23 := by omega
        all_goals
          injection hi with hi
          subst hi
          try simp [Region.binds] at hdep
        · exact step_run rfl (v := .pointer (some ⟨w.heap.size + 1 + 1, 1, none⟩)) (w' := w') (by go_simp) ⟨EqV.self rfl, rfl⟩
        · have d15 := hD.out 0 15 (by simp [hdep]) rfl
          rw [show vals 0 = _ from (hV 0 (by simp [hdep])).of rfl] at d15
          have hno : Ls 24 = false := by
            cases h : Ls 24 with
            | false => rfl
            | true => have := hC.path [24, 22, 1] (by kernel_rfl) 24 rfl h 1 rfl; rw [hL] at this; cases this
          have ob1 := hob hno
          have ob2 : w'.cell? ⟨w.heap.size + 1 + 1, 1, none⟩ = some (.slice q (L.take k).length c) := by simp [World.cell?, ob1]
          clear ob1
          exact step_run rfl (v := .slice q (L.take k).length c) (w' := w') (by go_simp) ⟨EqV.self rfl, rfl⟩
        · exact step_run rfl (v := .pointer (some ⟨w.heap.size, 1, none⟩)) (w' := w') (by go_simp) ⟨EqV.self rfl, rfl⟩
        · have d17 := hD.out 2 17 (by simp [hdep]) rfl
          rw [show vals 2 = _ from (hV 2 (by simp [hdep])).of rfl] at d17
          exact step_run rfl (v := .slice (some ⟨pb, po, none⟩) n ca) (w' := w') (by go_simp) ⟨EqV.self rfl, rfl⟩
        · exact step_run rfl (v := .int .i64 k) (w' := w') (by go_simp) ⟨EqV.self rfl, rfl⟩
        · have d18 := hD.out 3 18 (by simp [hdep]) rfl
          rw [show vals 3 = _ from (hV 3 (by simp [hdep])).of rfl] at d18
          have d19 := hD.out 4 19 (by simp [hdep]) rfl
          rw [show vals 4 = _ from (hV 4 (by simp [hdep])).of rfl] at d19
          exact step_run rfl (v := .pointer (some ⟨pb, po + k * 4, none⟩)) (w' := w') (by go_simp) ⟨EqV.self rfl, rfl⟩
        · have d20 := hD.out 5 20 (by simp [hdep]) rfl
          rw [show vals 5 = _ from (hV 5 (by simp [hdep])).of rfl] at d20
          exact step_run rfl (v := .pointer (some ⟨pb, po + k * 4, none⟩)) (w' := w') (by go_simp) ⟨EqV.self rfl, rfl⟩
        · have d21 := hD.out 6 21 (by simp [hdep]) rfl
          rw [show vals 6 = _ from (hV 6 (by simp [hdep])).of rfl] at d21
          exact step_run rfl (v := .agg #[.string ef, .string et]) (w' := w') (by go_simp) ⟨EqV.self rfl, rfl⟩
        · exact step_run rfl (v := .pointer (some ⟨w.heap.size, 1, none⟩)) (w' := w') (by go_simp) ⟨EqV.self rfl, rfl⟩
        · have d23 := hD.out 8 23 (by simp [hdep]) rfl
          rw [show vals 8 = _ from (hV 8 (by simp [hdep])).of rfl] at d23
          exact step_run rfl (v := .slice (some ⟨pb, po, none⟩) n ca) (w' := w') (by go_simp) ⟨EqV.self rfl, rfl⟩
        · exact step_run rfl (v := .int .i64 k) (w' := w') (by go_simp) ⟨EqV.self rfl, rfl⟩
        · have d24 := hD.out 9 24 (by simp [hdep]) rfl
          rw [show vals 9 = _ from (hV 9 (by simp [hdep])).of rfl] at d24
          have d25 := hD.out 10 25 (by simp [hdep]) rfl
          rw [show vals 10 = _ from (hV 10 (by simp [hdep])).of rfl] at d25
          exact step_run rfl (v := .pointer (some ⟨pb, po + k * 4, none⟩)) (w' := w') (by go_simp) ⟨EqV.self rfl, rfl⟩
        · have d26 := hD.out 11 26 (by simp [hdep]) rfl
          rw [show vals 11 = _ from (hV 11 (by simp [hdep])).of rfl] at d26
          exact step_run rfl (v := .pointer (some ⟨pb, po + k * 4 + 2, none⟩)) (w' := w') (by go_simp) ⟨EqV.self rfl, rfl⟩
        · have d27 := hD.out 12 27 (by simp [hdep]) rfl
          rw [show vals 12 = _ from (hV 12 (by simp [hdep])).of rfl] at d27
          exact step_run rfl (v := .int .i64 en) (w' := w') (by go_simp) ⟨EqV.self rfl, rfl⟩
        · exact step_run rfl (v := .pointer (some ⟨w.heap.size, 1, none⟩)) (w' := w') (by go_simp) ⟨EqV.self rfl, rfl⟩
        · have d29 := hD.out 14 29 (by simp [hdep]) rfl
          rw [show vals 14 = _ from (hV 14 (by simp [hdep])).of rfl] at d29
          exact step_run rfl (v := .slice (some ⟨pb, po, none⟩) n ca) (w' := w') (by go_simp) ⟨EqV.self rfl, rfl⟩
        · exact step_run rfl (v := .int .i64 k) (w' := w') (by go_simp) ⟨EqV.self rfl, rfl⟩
        · have d30 := hD.out 15 30 (by simp [hdep]) rfl
          rw [show vals 15 = _ from (hV 15 (by simp [hdep])).of rfl] at d30
          have d31 := hD.out 16 31 (by simp [hdep]) rfl
          rw [show vals 16 = _ from (hV 16 (by simp [hdep])).of rfl] at d31
          exact step_run rfl (v := .pointer (some ⟨pb, po + k * 4, none⟩)) (w' := w') (by go_simp) ⟨EqV.self rfl, rfl⟩
        · have d32 := hD.out 17 32 (by simp [hdep]) rfl
          rw [show vals 17 = _ from (hV 17 (by simp [hdep])).of rfl] at d32
          exact step_run rfl (v := .pointer (some ⟨pb, po + k * 4 + 3, none⟩)) (w' := w') (by go_simp) ⟨EqV.self rfl, rfl⟩
        · have d33 := hD.out 18 33 (by simp [hdep]) rfl
          rw [show vals 18 = _ from (hV 18 (by simp [hdep])).of rfl] at d33
          exact step_run rfl (v := .int .i64 ee) (w' := w') (by go_simp) ⟨EqV.self rfl, rfl⟩
        · have d22 := hD.out 7 22 (by simp [hdep]) rfl
          rw [show vals 7 = _ from (hV 7 (by simp [hdep])).of rfl] at d22
          have d28 := hD.out 13 28 (by simp [hdep]) rfl
          rw [show vals 13 = _ from (hV 13 (by simp [hdep])).of rfl] at d28
          have d34 := hD.out 19 34 (by simp [hdep]) rfl
          rw [show vals 19 = _ from (hV 19 (by simp [hdep])).of rfl] at d34
          rw [Array.getD_eq_getD_getElem?] at d22 d28 d34
          exact step_run rfl (v := .agg #[.string ef, .string et, .int .i64 en, .int .i64 ee]) (w' := w') (by go_simp) ⟨EqV.self rfl, rfl⟩
        · exact step_run rfl (v := .pointer (some ⟨w.heap.size + 1 + 1, 1, none⟩)) (w' := w') (by go_simp) ⟨EqV.self rfl, rfl⟩
      · intro opr Ls vals w' hi hdep hC hV
        generalize hA : frA _ _ Ls vals = a'
        have hT1 : a'.tmps.getD 1 undef = .pointer (some ⟨w.heap.size, 0, none⟩) := by rw [← hA, frA_base (by kernel_rfl)]; rfl
        have hT3 : a'.tmps.getD 3 undef = .pointer (some ⟨w.heap.size + 1 + 1, 0, none⟩) := by rw [← hA, frA_base (by kernel_rfl)]; rfl
        have hT4 : a'.tmps.getD 4 undef = .int .i64 k := by rw [← hA, frA_base (by kernel_rfl)]; rfl
        have hD := Lib.hid (fun k t (hk : Ls k = true) (ht : dstOf _ k = some t) => hA ▸ frA_done (by kernel_rfl) (vals := vals) hk ht)
        clear hA
        injection hi with hi
        subst hi
        simp [Region.binds] at hdep
        have d35 := hD.out 20 35 (by simp [hdep]) rfl
        rw [show vals 20 = _ from (hV 20 (by simp [hdep])).of rfl] at d35
        rw [Array.getD_eq_getD_getElem?] at d35
        exact step_run rfl (v := .slice (some ⟨w'.heap.size, 0, none⟩) 1 1) (w' := w'.alloc (.cells #[.string ef, .string et, .int .i64 en, .int .i64 ee] 70)) (by go_simp) ⟨rfl, rfl⟩
      · intro opr Ls vals w' b hi hdep hC hLb hV hb hrow hown hBw
        generalize hA : frA _ _ Ls vals = a'
        have hT1 : a'.tmps.getD 1 undef = .pointer (some ⟨w.heap.size, 0, none⟩) := by rw [← hA, frA_base (by kernel_rfl)]; rfl
        have hT3 : a'.tmps.getD 3 undef = .pointer (some ⟨w.heap.size + 1 + 1, 0, none⟩) := by rw [← hA, frA_base (by kernel_rfl)]; rfl
        have hT4 : a'.tmps.getD 4 undef = .int .i64 k := by rw [← hA, frA_base (by kernel_rfl)]; rfl
        have hD := Lib.hid (fun k t (hk : Ls k = true) (ht : dstOf _ k = some t) => hA ▸ frA_done (by kernel_rfl) (vals := vals) hk ht)
        clear hA
        injection hi with hi
        subst hi
        simp [Region.binds] at hdep
        have d16 := hD.out 1 16 (by simp [hdep]) rfl
        rw [show vals 1 = _ from (hV 1 (by simp [hdep])).of rfl] at d16
        have d36 := hD.out 21 36 (by simp [hdep]) rfl
        rw [hb] at d36
        exact stepI_app_k skt_atlas rfl _ _ rfl d16 hown _ _ _ d36 hrow (fun h => by cases h) (by have := HLK.out; simp only [List.length_cons, List.length_nil]; omega) hBw fun v' w'' h1 h2 h3 => ⟨h1, h2, h3⟩
      · intro opr Ls vals w' q5 c5 hi hdep hC hLa hV hv hob
        generalize hA : frA _ _ Ls vals = a'
        have hT1 : a'.tmps.getD 1 undef = .pointer (some ⟨w.heap.size, 0, none⟩) := by rw [← hA, frA_base (by kernel_rfl)]; rfl
        have hT3 : a'.tmps.getD 3 undef = .pointer (some ⟨w.heap.size + 1 + 1, 0, none⟩) := by rw [← hA, frA_base (by kernel_rfl)]; rfl
        have hT4 : a'.tmps.getD 4 undef = .int .i64 k := by rw [← hA, frA_base (by kernel_rfl)]; rfl
        have hD := Lib.hid (fun k t (hk : Ls k = true) (ht : dstOf _ k = some t) => hA ▸ frA_done (by kernel_rfl) (vals := vals) hk ht)
        clear hA
        injection hi with hi
        subst hi
        simp [Region.binds] at hdep
        have d38 := hD.out 23 38 (by simp [hdep]) rfl
        rw [show vals 23 = _ from (hV 23 (by simp [hdep])).of rfl] at d38
        have d37 := hD.out 22 37 (by simp [hdep]) rfl
        rw [hv] at d37
        have c1 : w'.cell? ⟨w.heap.size + 1 + 1, 1, none⟩ = some (.slice q (L.take k).length c) := by simp [World.cell?, hob]
        have f1 : w'.frozen? ⟨w.heap.size + 1 + 1, 1, none⟩ = false := by simp [World.frozen?, hob]
        clear hob
        exact stepI_skip rfl (w' := w'.setCell ⟨w.heap.size + 1 + 1, 1, none⟩ (.slice q5 ((L.take k) ++ ([⟨⟨ef, et⟩, en, ee⟩] : List Sd)).length c5)) (by go_simp) rfl
      · intro vals w4 hK hob hown hV
        have e0 : vals 0 = .pointer (some ⟨w.heap.size + 1 + 1, 1, none⟩) := (hV 0 (by decide)).of rfl
        have e1 : vals 1 = .slice q (L.take k).length c := (hV 1 (by decide)).of rfl
        have e2 : vals 2 = .pointer (some ⟨w.heap.size, 1, none⟩) := (hV 2 (by decide)).of rfl
        have e3 : vals 3 = .slice (some ⟨pb, po, none⟩) n ca := (hV 3 (by decide)).of rfl
        have e4 : vals 4 = .int .i64 k := (hV 4 (by decide)).of rfl
        have e5 : vals 5 = .pointer (some ⟨pb, po + k * 4, none⟩) := (hV 5 (by decide)).of rfl
        have e6 : vals 6 = .pointer (some ⟨pb, po + k * 4, none⟩) := (hV 6 (by decide)).of rfl
        have e7 : vals 7 = .agg #[.string ef, .string et] := (hV 7 (by decide)).of rfl
        have e8 : vals 8 = .pointer (some ⟨w.heap.size, 1, none⟩) := (hV 8 (by decide)).of rfl
        have e9 : vals 9 = .slice (some ⟨pb, po, none⟩) n ca := (hV 9 (by decide)).of rfl
        have e10 : vals 10 = .int .i64 k := (hV 10 (by decide)).of rfl
        have e11 : vals 11 = .pointer (some ⟨pb, po + k * 4, none⟩) := (hV 11 (by decide)).of rfl
        have e12 : vals 12 = .pointer (some ⟨pb, po + k * 4 + 2, none⟩) := (hV 12 (by decide)).of rfl
        have e13 : vals 13 = .int .i64 en := (hV 13 (by decide)).of rfl
        have e14 : vals 14 = .pointer (some ⟨w.heap.size, 1, none⟩) := (hV 14 (by decide)).of rfl
        have e15 : vals 15 = .slice (some ⟨pb, po, none⟩) n ca := (hV 15 (by decide)).of rfl
        have e16 : vals 16 = .int .i64 k := (hV 16 (by decide)).of rfl
        have e17 : vals 17 = .pointer (some ⟨pb, po + k * 4, none⟩) := (hV 17 (by decide)).of rfl
        have e18 : vals 18 = .pointer (some ⟨pb, po + k * 4 + 3, none⟩) := (hV 18 (by decide)).of rfl
        have e19 : vals 19 = .int .i64 ee := (hV 19 (by decide)).of rfl
        have e20 : vals 20 = .agg #[.string ef, .string et, .int .i64 en, .int .i64 ee] := (hV 20 (by decide)).of rfl
        have e23 : vals 23 = .pointer (some ⟨w.heap.size + 1 + 1, 1, none⟩) := (hV 23 (by decide)).of rfl
        have e_b : True := trivial
        have HQ := Lib.hid (show MdI w0 70 ep (w.heap.size + 1 + 1) L (k + 1) w4 from ⟨HI.out.kept.trans hK (fun i hi h => h.elim id fun h => by have := HNO.out _ h; omega), vals 22, hob, by rw [HTK.out]; exact hown⟩)
        simp only [putsL, Act.put, List.setIfInBounds_toArray, List.set_cons_zero, List.set_cons_succ, e0, e1, e2, e3, e4, e5, e6, e7, e8, e9, e10, e11, e12, e13, e14, e15, e16, e17, e18, e19, e20, e23]
        clear e_b e0 e1 e2 e3 e4 e5 e6 e7 e8 e9 e10 e11 e12 e13 e14 e15 e16 e17 e18 e19 e20 e23
        clear hK hob hown hV
        go_wp2_with fail
        exact ⟨⟨k + 1, by go_num, hk, HQ⟩, by simp [RowKit.intOf]; omega⟩
    · have hkz : ¬ (k : Int) < (n : Int) := by omega
      have hke : k = n := by omega
      obtain ⟨v, hv, hown⟩ := HI.out.row
      have HOW := Lib.hid hown
      have HKP := Lib.hid HI.out.kept
      have o0 : wr.cell? ⟨w.heap.size + 1 + 1, 0, none⟩ = some (.int .i64 ep) := by simp [World.cell?, hv]
      have o1 : wr.cell? ⟨w.heap.size + 1 + 1, 1, none⟩ = some v := by simp [World.cell?, hv]
      have hrb := (HKP.out.block (w.heap.size + 1) (by have := HZ.out; omega) (by show ¬ w.heap.size + 1 = _; omega)).trans HRS.out.2.2.2.2
      have r0 : wr.cell? ⟨w.heap.size + 1, 0, none⟩ = some (.int .i64 0) := by simp [World.cell?, hrb]
      have r1 : wr.cell? ⟨w.heap.size + 1, 1, none⟩ = some (.slice none 0 0) := by simp [World.cell?, hrb]
      have f0 : wr.frozen? ⟨w.heap.size + 1, 0, none⟩ = false := by simp [World.frozen?, hrb]
      have f1 : wr.frozen? ⟨w.heap.size + 1, 1, none⟩ = false := by simp [World.frozen?, hrb]
      have HKE := Lib.hid hke
      clear hv hown hrb hke HI
      obtain ⟨q, c, rfl, _⟩ := HOW.out.row
      go_wp2_with fail
      refine bodyPost_ret (v := .agg #[.int .i64 ep, .slice q (L.take k).length c]) (by simp [results, Try.results21, go_sem, r0, r1]) rfl ⟨_, rfl, ?_, ?_⟩
      · have h1 : OwnK KS wr w0.heap.size 70 (.slice q (L.take k).length c) L := by
          have e : L.take k = L := List.take_of_length_le (by rw [HN.out, HKE.out]; exact Nat.le_refl _)
          have := HOW.out
          rw [e] at this ⊢
          exact this
        have hno : ∀ g, (Value.slice q (L.take k).length c).ownBlock = some g → w0.heap.size ≤ g := fun g hg => (HOW.out.ltB g hg).1
        have hz := HZ.out
        exact ((h1.setCell (fun e => by have h : w0.heap.size ≤ w.heap.size + 1 := hno _ e; omega) _).setCell (fun e => by have h : w0.heap.size ≤ w.heap.size + 1 := hno _ e; omega) _).mono (by omega)
      · have h1 : Below w.heap.size w wr := HB0.out.trans (HKP.out.below (B := w.heap.size) (fun j h => by have : j = _ := h; omega) (by have := HZ.out; omega))
        exact (h1.setCell (by show w.heap.size ≤ w.heap.size + 1; omega) _).setCell (by show w.heap.size ≤ w.heap.size + 1; omega) _
end Go.Proofs.Ytfadpiipigkocaa
