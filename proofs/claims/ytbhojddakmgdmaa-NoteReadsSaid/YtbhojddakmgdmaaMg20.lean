/-
  Several texts in one: AtSmall, RegLay, RegApp.
-/
import Derived.Test.YtbhojddakmgdmaaMg13
import Derived.Test.YtbhojddakmgdmaaMg19
import Derived.Test.YtbhojddakmgdmaaMg15
import Derived.Test.YtbhojddakmgdmaaMg09
namespace Go.Proofs.Ytbhojddakmgdmaa
open Go.RowKit Go.Gz

def RetSmA (w : World) (n : Nat) (e : Ending) (w' : World) : Prop := ∃ b, e = .returned (.bool b) ∧ (b = true → n ≤ 60) ∧ Below w.heap.size w w'
set_option maxHeartbeats 4000000 in
set_option maxRecDepth 100000 in
theorem small_any (w : World) (ep : Int) (L : List Sd) (p : Option Addr) (ca : Nat) (hp : RowK KS w p L) (hL : L.length ≤ 9223372036854775807) :
    Calls Try.prog 17 #[.agg #[.int .i64 ep, .slice p L.length ca]] w (RetSmA w L.length) := by
  obtain ⟨n, hN⟩ : ∃ n, L.length = n := ⟨_, rfl⟩
  have HN := Lib.hid hN
  rw [hN] at hL ⊢
  obtain ⟨w0, hw0⟩ : ∃ w0, w.alloc (.cells #[.int .i64 ep, .slice p n ca] 34) = w0 := ⟨_, rfl⟩
  have HB0 := Lib.hid (show Below w.heap.size w w0 from hw0 ▸ below_alloc _ _)
  have HBX := Lib.hid (show BoxA w0 w.heap.size ep (.slice p n ca) from hw0 ▸ BoxA.new w _ _ _)
  have HR := Lib.hid (hp.below HB0.out)
  have HF := Lib.hid (show ∀ b : Bool, ∀ w', (b = true → n ≤ 60) → Below w0.heap.size w0 w' → RetSmA w n (.returned (.bool b)) w' from fun b w' h1 h2 => ⟨b, rfl, h1, HB0.out.trans (h2.mono HB0.out.size)⟩)
  have HW0 := Lib.hid hw0
  clear hN hp hw0
  go_enter Try.func17, Try.ntmps17
  go_wp2_with fail
  rw [HW0.out]
  go_loopw [3, 4] (fun v i wr => ∃ k : Nat, i = .int .i64 k ∧ k ≤ n ∧ k ≤ 100 ∧ Hid (OwnK KP wr w0.heap.size 30 v ((L.take k).map Sd.sp)) ∧ Hid (Below w0.heap.size w0 wr)) (fun _ i _ => n - (RowKit.intOf i).toNat)
  case atStart => exact ⟨0, rfl, Nat.zero_le _, by omega, Lib.hid (OwnK.nil KP _ _ _), Lib.hid (Below.refl _ _)⟩
  case round =>
    obtain ⟨k, rfl, hkn, hk1, HOW, BW⟩ := hrel
    obtain ⟨hkb, x0, x1⟩ := HBX.out.below BW.out
    rcases Nat.lt_or_ge k n with hk | hk
    · have hkz : (k : Int) < (n : Int) := by omega
      rcases Nat.lt_or_ge k 100 with h1 | h1
      · have h1z : (k : Int) < 100 := by omega
        have hklt : k < L.length := by rw [HN.out]; exact hk
        obtain ⟨e, he⟩ : ∃ e, L.getD k default = e := ⟨_, rfl⟩
        obtain ⟨pb, po, rfl, hpb, hcell⟩ := HR.out.cells BW.out hklt
        rw [he] at hcell
        have HTK := Lib.hid (show (L.take (k + 1)).map Sd.sp = (L.take k).map Sd.sp ++ [e.sp] by
          rw [List.take_succ_eq_append_getElem hklt, ← he, List.map_append]
          simp [List.getD, hklt])
        have HLK := Lib.hid (show ((L.take k).map Sd.sp).length = k by rw [List.length_map, List.length_take]; omega)
        have HON := Lib.hid (RowK.block KP (L := [e.sp]) (alloc_at wr (.cells #[.string e.sp.f, .string e.sp.t] 30)))
        obtain ⟨⟨ef, et⟩, en, ee⟩ := e
        have z0 := hcell 0 (by decide)
        have z1 := hcell 1 (by decide)
        simp only [KS, Nat.add_zero] at z0 z1
        simp only at HON HTK
        clear hcell he
        obtain ⟨q, c, hvq, _⟩ := HOW.out.row
        go_wp2_with (at_builtin; refine wpList_app_k skt_span rfl _ _ rfl rfl (HOW.out.alloc _) (some ⟨wr.heap.size, 0, none⟩) 1 [⟨ef, et⟩] rfl HON.out (fun h => by cases h) (by have := HLK.out; simp only [List.length_cons, List.length_nil]; omega) (by have := BW.out.size; simp; omega) ?_; intro v4 w4 hown4 hgrow4 hat4)
        have HO4 := Lib.hid (show OwnK KP w4 w0.heap.size 30 v4 ((L.take (k + 1)).map Sd.sp) by rw [HTK.out]; exact hown4)
        have HB4 := Lib.hid ((BW.out.alloc BW.out.size _).grown hgrow4 (by have := BW.out.size; simp; omega) (fun g hg => (HOW.out.ltB g hg).1))
        exact ⟨⟨k + 1, by go_num, hk, by omega, HO4, HB4⟩, by simp [RowKit.intOf]; omega⟩
      · have h1z : ¬ (k : Int) < 100 := by omega
        have h60 : ¬ (n : Int) ≤ 60 := by omega
        have HQ := Lib.hid (HF.out false wr (fun h => by cases h) BW.out)
        clear HOW
        go_wp2_with fail
        go_ret
        exact HQ.out
    · have hkz : ¬ (k : Int) < (n : Int) := by omega
      obtain rfl : k = n := by omega
      by_cases h60 : k ≤ 60
      · have h60z : (k : Int) ≤ 60 := by omega
        obtain ⟨q, c, hvq, _, _, hrow, _⟩ := HOW.out.row
        have hlen : ((L.take k).map Sd.sp).length = k := by rw [List.length_map, List.length_take, HN.out]; omega
        have CF := Lib.hid (few_any ((L.take k).map Sd.sp) q c wr (spans_of hrow) (by rw [hlen]; omega))
        rw [hlen] at CF hvq
        subst hvq
        clear hrow HOW
        go_wp2_with fail
        refine CF.out.mono ?_
        rintro e w5 ⟨b, rfl, hb, hbl⟩
        have HQ := Lib.hid (HF.out b w5 (fun _ => h60) (BW.out.trans (hbl.mono BW.out.size)))
        clear hb hbl
        go_wp2_with fail
        go_ret
        exact HQ.out
      · have h60z : ¬ (k : Int) ≤ 60 := by omega
        have HQ := Lib.hid (HF.out false wr (fun h => by cases h) BW.out)
        clear HOW
        go_wp2_with fail
        go_ret
        exact HQ.out
end Go.Proofs.Ytbhojddakmgdmaa
namespace Go.Gz
open Go.RowKit

/-- cells of a block are written, one behind the other. -/
def layCells (w : World) (g : Nat) : Nat → List Value → World
  | _, [] => w
  | o, v :: t => layCells (w.setCell ⟨g, o, none⟩ v) g (o + 1) t
theorem layCells_other (g : Nat) : ∀ (vs : List Value) (o : Nat) (w : World) (k : Nat), k ≠ g → (layCells w g o vs).heap[k]? = w.heap[k]?
  | [], _, _, _, _ => rfl
  | _ :: t, o, _, k, h => (layCells_other g t (o + 1) _ k h).trans (Below.heap_setCell _ _ _ _ h)
theorem layCells_size (g : Nat) : ∀ (vs : List Value) (o : Nat) (w : World), (layCells w g o vs).heap.size = w.heap.size
  | [], _, _ => rfl
  | v :: t, o, w => (layCells_size g t (o + 1) _).trans (by simp [World.setCell])
theorem layCells_below {n : Nat} {W : World} (g : Nat) (hg : n ≤ g) : ∀ (vs : List Value) (o : Nat) (w : World), Below n W w → Below n W (layCells w g o vs)
  | [], _, _, h => h
  | v :: t, o, _, h => layCells_below g hg t (o + 1) _ (h.setCell hg v)
theorem layCell_block {w : World} {b : Nat} {cs : Array Value} {t : TypeId} {fz : Nat × Nat} (h : w.heap[b]? = some (.cells cs t fz)) (i : Nat) (u : Value) : (w.setCell ⟨b, i, none⟩ u).heap[b]? = some (.cells (cs.setIfInBounds i u) t fz) := by
  simp only [World.setCell, Array.getElem?_modify, if_true, h, Option.map_some]
  rfl
theorem layCells_block (g : Nat) (t : TypeId) (fz : Nat × Nat) : ∀ (vs : List Value) (pre : List Value) (post : List Value) (w : World), post.length = vs.length → w.heap[g]? = some (.cells (pre ++ post).toArray t fz) → (layCells w g pre.length vs).heap[g]? = some (.cells (pre ++ vs).toArray t fz)
  | [], pre, post, w, hl, h => by
    obtain rfl : post = [] := List.eq_nil_of_length_eq_zero hl
    exact h
  | v :: r, pre, post, w, hl, h => by
    cases post with
    | nil => simp at hl
    | cons x post =>
      have h1 := layCell_block h pre.length v
      have e : ((pre ++ x :: post).toArray.setIfInBounds pre.length v) = ((pre ++ [v]) ++ post).toArray := by simp
      rw [e] at h1
      have h2 := layCells_block g t fz r (pre ++ [v]) post _ (by simpa using hl) h1
      simp only [List.length_append, List.length_cons, List.length_nil, List.append_assoc, List.cons_append, List.nil_append] at h2
      exact h2
theorem layCells_all {g : Nat} {t : TypeId} {fz : Nat × Nat} {w : World} {cs : List Value} (vs : List Value) (h : w.heap[g]? = some (.cells cs.toArray t fz)) (hl : vs.length = cs.length) : (layCells w g 0 vs).heap[g]? = some (.cells vs.toArray t fz) :=
  layCells_block g t fz vs [] cs w hl.symm (by simpa using h)

/-- one variable that is laid: the places of its alloc, of its store, and of what is stored; its type, its zero cells, the cells of its value. -/
structure Lay where
  a : Nat
  s : Nat
  r : Nat
  t : TypeId
  z : List Value
  v : Value → List Value
def Lay.ptr (b : Nat) : Value := .pointer (some ⟨b, 0, none⟩)
/-- an operation waits for another one. -/
def waitsB (l : List Oper) (i k : Nat) : Bool := match l[i]? with | some o => o.after.any fun e => Region.binds .any e && e.on == k | none => false
def layB (l : List Oper) (ys : List Lay) : Bool :=
  (ys.all fun y => decide (y.a < l.length) && decide (y.s < l.length) && waitsB l y.s y.a && waitsB l y.s y.r) && decide ((ys.map Lay.a ++ ys.map Lay.s).Nodup)
theorem nodup_inj {α β : Type} {f : α → β} : ∀ {ys : List α}, (ys.map f).Nodup → ∀ y ∈ ys, ∀ y' ∈ ys, f y = f y' → y = y'
  | [], _, _, h, _, _, _ => by cases h
  | x :: t, hn, y, hy, y', hy', e => by
    rw [List.map_cons, List.nodup_cons] at hn
    obtain ⟨h1, h2⟩ := hn
    rcases List.mem_cons.1 hy with e1 | g1
    · rcases List.mem_cons.1 hy' with e2 | g2
      · rw [e1, e2]
      · exact absurd (List.mem_map.2 ⟨y', g2, by rw [← e, e1]⟩) h1
    · rcases List.mem_cons.1 hy' with e2 | g2
      · exact absurd (List.mem_map.2 ⟨y, g1, by rw [e, e2]⟩) h1
      · exact nodup_inj h2 y g1 y' g2 e
theorem waits_of {l : List Oper} {i k : Nat} (h : waitsB l i k = true) {o : Oper} (ho : l[i]? = some o) {L : Nat → Bool} (hd : ∀ e ∈ o.after, Region.binds .any e = true → L e.on = true) : L k = true := by
  unfold waitsB at h
  rw [ho] at h
  simp only [Array.any_eq_true, Bool.and_eq_true, beq_iff_eq] at h
  obtain ⟨j, hj, h1, h2⟩ := h
  rw [← h2]
  exact hd _ (Array.getElem_mem hj) h1

/-- y's block, as far as it has come. -/
def LayAt (n : Nat) (L : Nat → Bool) (vals : Nat → Value) (w : World) (y : Lay) : Prop :=
  L y.a = true → ∃ b, vals y.a = Lay.ptr b ∧ n ≤ b ∧ w.heap[b]? = some (.cells (if L y.s then y.v (vals y.r) else y.z).toArray y.t (0, 0))
structure LayI (w0 : World) (vs : List VP) (ys : List Lay) (L : Nat → Bool) (vals : Nat → Value) (w : World) : Prop where
  bel : Below w0.heap.size w0 w
  val : ∀ k, L k = true → (∀ y ∈ ys, y.a ≠ k ∧ y.s ≠ k) → (VP.at vs k).f (vals k) w
  wait : ∀ y ∈ ys, L y.s = true → L y.a = true ∧ L y.r = true
  at_ : ∀ y ∈ ys, LayAt w0.heap.size L vals w y
  ne : ∀ y ∈ ys, ∀ y' ∈ ys, y.a ≠ y'.a → L y.a = true → L y'.a = true → vals y.a ≠ vals y'.a

theorem ptr_inj {a b : Nat} (h : Lay.ptr a = Lay.ptr b) : a = b := by
  unfold Lay.ptr at h
  injection h with h
  injection h with h
  injection h with h

theorem wp_region_lay {P : Program} {id : Nat} {a : Act} {w : World} {l : List Oper} {Q : Exit → Act → World → Prop} (hm : P.follows .mixedOrders = true) (hB : invB l.toArray a.tmps.size = true)
    (vs : List VP) (ys : List Lay) (hY : layB l ys = true)
    (hsta : ∀ k, ∀ y ∈ ys, ∀ v w' b cs cs', (VP.at vs k).f v w' → w'.heap[b]? = some (.cells cs y.t (0, 0)) → w.heap.size ≤ b → (VP.at vs k).f v (layCells w' b 0 cs'))
    (hval : ∀ i o L vals w', l[i]? = some o → L i = false → (∀ e ∈ o.after, Region.binds .any e = true → L e.on = true) → Closed l L → Below w.heap.size w w' → (∀ k, L k = true → (∀ y ∈ ys, y.a ≠ k ∧ y.s ≠ k) → (VP.at vs k).f (vals k) w') → (∀ y ∈ ys, y.a ≠ i ∧ y.s ≠ i) →
      StepI P l.toArray Q i o (frA a l.toArray L vals) w' fun v w'' => (VP.at vs i).f v w'' ∧ Below w'.heap.size w' w'')
    (halloc : ∀ y ∈ ys, ∀ o L vals w', l[y.a]? = some o → StepI P l.toArray Q y.a o (frA a l.toArray L vals) w' fun v w'' => v = Lay.ptr w'.heap.size ∧ w'' = w'.alloc (.cells y.z.toArray y.t))
    (hstore : ∀ y ∈ ys, ∀ o L vals w' b, l[y.s]? = some o → L y.a = true → L y.r = true → Below w.heap.size w w' → (∀ k, L k = true → (∀ y ∈ ys, y.a ≠ k ∧ y.s ≠ k) → (VP.at vs k).f (vals k) w') → vals y.a = Lay.ptr b → w'.heap[b]? = some (.cells y.z.toArray y.t (0, 0)) →
      StepI P l.toArray Q y.s o (frA a l.toArray L vals) w' fun _ w'' => w'' = layCells w' b 0 (y.v (vals y.r)) ∧ (y.v (vals y.r)).length = y.z.length)
    (hend : ∀ vals w', Below w.heap.size w w' → (∀ k, k < l.length → (∀ y ∈ ys, y.a ≠ k ∧ y.s ≠ k) → (VP.at vs k).f (vals k) w') →
      (∀ y ∈ ys, ∃ b, vals y.a = Lay.ptr b ∧ w.heap.size ≤ b ∧ w'.heap[b]? = some (.cells (y.v (vals y.r)).toArray y.t (0, 0))) → (∀ y ∈ ys, ∀ y' ∈ ys, y.a ≠ y'.a → vals y.a ≠ vals y'.a) → Q .normal (putsL vals l 0 a) w') : (Code.region id l.toArray true).wp P Q a w := by
  have hY' := hY
  unfold layB at hY'
  simp only [Bool.and_eq_true, List.all_eq_true, decide_eq_true_eq] at hY'
  obtain ⟨hI1, hN⟩ := hY'
  rw [List.nodup_append] at hN
  obtain ⟨hNa, hNs, hNd⟩ := hN
  have ia := nodup_inj hNa
  have is_ := nodup_inj hNs
  have hne : ∀ y ∈ ys, ∀ y' ∈ ys, y.a ≠ y'.s := fun y hy y' hy' e => hNd _ (List.mem_map.2 ⟨y, hy, rfl⟩) _ (List.mem_map.2 ⟨y', hy', rfl⟩) e
  clear hNa hNs hNd
  refine wp_region_invC hm hB (LayI w vs ys) (fun vals => ⟨(Below.refl _ _).drew, fun k h => (by cases h), fun y _ h => (by cases h), fun y _ h => (by cases h), fun y _ y' _ _ h => (by cases h)⟩) ?_ ?_
  · intro i o L vals w' hi hL hdep hC hI K hK
    -- what was done stays as it was
    have keepV : ∀ v k, L k = true → updV vals i v k = vals k := fun v k hk => by
      unfold updV
      rw [if_neg (fun e => by subst e; rw [hL] at hk; cases hk)]
    have keepL : ∀ k, k ≠ i → updL L i k = L k := fun k hk => by unfold updL; rw [if_neg hk]
    have doneL : ∀ k, L k = true → updL L i k = true := fun k hk => by unfold updL; split <;> simp [hk]
    by_cases hexa : ∃ y ∈ ys, y.a = i
    · obtain ⟨y, hy, rfl⟩ := hexa
      refine halloc y hy o L vals w' hi K fun v w'' ⟨hv, hw⟩ => hK v w'' ?_
      subst hv hw
      have hb' : Below w'.heap.size w' (w'.alloc (.cells y.z.toArray y.t)) := (Below.refl _ _).alloc (Nat.le_refl _) _
      have hnew : (w'.alloc (.cells y.z.toArray y.t)).heap[w'.heap.size]? = some (.cells y.z.toArray y.t (0, 0)) := by show (w'.heap.push _)[w'.heap.size]? = _; simp
      have hno : L y.s = false := by
        cases h : L y.s with
        | false => rfl
        | true => have := (hI.wait y hy h).1; rw [hL] at this; cases this
      refine ⟨hI.bel.trans (hb'.mono hI.bel.size), ?_, ?_, ?_, ?_⟩
      · intro k hk hn
        have hki : k ≠ y.a := fun e => (hn y hy).1 e.symm
        rw [keepL k hki] at hk
        rw [keepV _ k hk]
        exact (VP.at vs k).hf _ _ _ (hI.val k hk hn) hb'
      · intro y' hy' hs
        rw [keepL _ (fun e => hne y hy y' hy' e.symm)] at hs
        obtain ⟨h2, h3⟩ := hI.wait y' hy' hs
        exact ⟨doneL _ h2, doneL _ h3⟩
      · intro y' hy' ha
        have hs' : updL L y.a y'.s = L y'.s := keepL _ (fun e => hne y hy y' hy' e.symm)
        by_cases e : y'.a = y.a
        · obtain rfl := ia y' hy' y hy e
          refine ⟨w'.heap.size, ?_, hI.bel.size, ?_⟩
          · unfold updV; rw [if_pos rfl]
          · rw [hs', hno]; exact hnew
        · rw [keepL _ e] at ha
          obtain ⟨b, h1, h2, h3⟩ := hI.at_ y' hy' ha
          refine ⟨b, by rw [keepV _ _ ha]; exact h1, h2, ?_⟩
          rw [hb'.block b (Array.getElem?_eq_some_iff.1 h3).1, h3, hs']
          by_cases hd : L y'.s = true
          · rw [keepV _ _ (hI.wait y' hy' hd).2]
          · rw [if_neg hd, if_neg hd]
      · intro y1 hy1 y2 hy2 hne12 h1 h2
        by_cases e1 : y1.a = y.a
        · have e2 : y2.a ≠ y.a := fun e => hne12 (e1.trans e.symm)
          rw [keepL _ e2] at h2
          rw [keepV _ _ h2, e1]
          unfold updV
          rw [if_pos rfl]
          obtain ⟨b, g1, g2, g3⟩ := hI.at_ y2 hy2 h2
          rw [g1]
          intro e
          have := ptr_inj e
          have := (Array.getElem?_eq_some_iff.1 g3).1
          omega
        · rw [keepL _ e1] at h1
          rw [keepV _ _ h1]
          obtain ⟨b, g1, g2, g3⟩ := hI.at_ y1 hy1 h1
          by_cases e2 : y2.a = y.a
          · rw [e2]
            unfold updV
            rw [if_pos rfl, g1]
            intro e
            have := ptr_inj e
            have := (Array.getElem?_eq_some_iff.1 g3).1
            omega
          · rw [keepL _ e2] at h2
            rw [keepV _ _ h2]
            exact hI.ne y1 hy1 y2 hy2 hne12 h1 h2
    · by_cases hexs : ∃ y ∈ ys, y.s = i
      · obtain ⟨y, hy, rfl⟩ := hexs
        have hda := waits_of (hI1 y hy).1.2 hi hdep
        have hdr := waits_of (hI1 y hy).2 hi hdep
        obtain ⟨b, g1, g2, g3⟩ := hI.at_ y hy hda
        rw [if_neg (by rw [hL]; exact Bool.false_ne_true)] at g3
        refine hstore y hy o L vals w' b hi hda hdr hI.bel hI.val g1 g3 K fun v w'' ⟨hw, hlen⟩ => hK v w'' ?_
        subst hw
        refine ⟨layCells_below b g2 _ _ _ hI.bel, ?_, ?_, ?_, ?_⟩
        · intro k hk hn
          have hki : k ≠ y.s := fun e => (hn y hy).2 e.symm
          rw [keepL k hki] at hk
          rw [keepV _ k hk]
          exact hsta k y hy _ _ _ _ _ (hI.val k hk hn) g3 g2
        · intro y' hy' hs
          by_cases e : y'.s = y.s
          · obtain rfl := is_ y' hy' y hy e
            exact ⟨doneL _ hda, doneL _ hdr⟩
          · rw [keepL _ e] at hs
            obtain ⟨h2, h3⟩ := hI.wait y' hy' hs
            exact ⟨doneL _ h2, doneL _ h3⟩
        · intro y' hy' ha
          rw [keepL _ (hne y' hy' y hy)] at ha
          by_cases e : y'.s = y.s
          · obtain rfl := is_ y' hy' y hy e
            refine ⟨b, by rw [keepV _ _ ha]; exact g1, g2, ?_⟩
            rw [if_pos (by unfold updL; rw [if_pos rfl]), keepV _ _ hdr]
            exact layCells_all _ g3 hlen
          · obtain ⟨b', h1, h2, h3⟩ := hI.at_ y' hy' ha
            have hbb : b' ≠ b := fun eb => by
              refine hI.ne y' hy' y hy (fun ea => e ?_) ha hda (by rw [h1, g1, eb])
              rw [ia y' hy' y hy ea]
            refine ⟨b', by rw [keepV _ _ ha]; exact h1, h2, ?_⟩
            rw [layCells_other _ _ _ _ _ hbb, h3, keepL _ e]
            by_cases hd : L y'.s = true
            · rw [keepV _ _ (hI.wait y' hy' hd).2]
            · rw [if_neg hd, if_neg hd]
        · intro y1 hy1 y2 hy2 hne12 h1 h2
          rw [keepL _ (hne y1 hy1 y hy)] at h1
          rw [keepL _ (hne y2 hy2 y hy)] at h2
          rw [keepV _ _ h1, keepV _ _ h2]
          exact hI.ne y1 hy1 y2 hy2 hne12 h1 h2
      · have hn' : ∀ y ∈ ys, y.a ≠ i ∧ y.s ≠ i := fun y hy => ⟨fun e => hexa ⟨y, hy, e⟩, fun e => hexs ⟨y, hy, e⟩⟩
        refine hval i o L vals w' hi hL hdep hC hI.bel hI.val hn' K fun v w'' ⟨hv, hb'⟩ => hK v w'' ?_
        refine ⟨hI.bel.trans (hb'.mono hI.bel.size), ?_, ?_, ?_, ?_⟩
        · intro k hk hn
          by_cases e : k = i
          · subst e
            unfold updV
            rw [if_pos rfl]
            exact hv
          · rw [keepL k e] at hk
            rw [keepV _ k hk]
            exact (VP.at vs k).hf _ _ _ (hI.val k hk hn) hb'
        · intro y' hy' hs
          rw [keepL _ (hn' y' hy').2] at hs
          obtain ⟨h2, h3⟩ := hI.wait y' hy' hs
          exact ⟨doneL _ h2, doneL _ h3⟩
        · intro y' hy' ha
          rw [keepL _ (hn' y' hy').1] at ha
          obtain ⟨b, h1, h2, h3⟩ := hI.at_ y' hy' ha
          refine ⟨b, by rw [keepV _ _ ha]; exact h1, h2, ?_⟩
          rw [hb'.block b (Array.getElem?_eq_some_iff.1 h3).1, h3, keepL _ (hn' y' hy').2]
          by_cases hd : L y'.s = true
          · rw [keepV _ _ (hI.wait y' hy' hd).2]
          · rw [if_neg hd, if_neg hd]
        · intro y1 hy1 y2 hy2 hne12 h1 h2
          rw [keepL _ (hn' y1 hy1).1] at h1
          rw [keepL _ (hn' y2 hy2).1] at h2
          rw [keepV _ _ h1, keepV _ _ h2]
          exact hI.ne y1 hy1 y2 hy2 hne12 h1 h2
  · intro vals w' hI
    refine hend vals w' hI.bel (fun k hk hn => hI.val k (by simpa using hk) hn) (fun y hy => ?_) (fun y hy y' hy' hne => hI.ne y hy y' hy' hne (by simpa using (hI1 y hy).1.1.1) (by simpa using (hI1 y' hy').1.1.1))
    obtain ⟨b, h1, h2, h3⟩ := hI.at_ y hy (by simpa using (hI1 y hy).1.1.1)
    refine ⟨b, h1, h2, ?_⟩
    rw [h3, if_pos (by simpa using (hI1 y hy).1.1.2)]

/-- .. where what is reckoned is known, whatever the world is. -/
def VP.opt : Option Value → VP | some x => VP.eq x | none => VP.any
theorem VP.opt_eq (os : List (Option Value)) (k : Nat) (v : Value) (w : World) : (VP.at (os.map VP.opt) k).f v w ↔ EqV os k v := by
  unfold VP.at EqV
  rw [List.getElem?_map]
  cases h : os[k]? with
  | none => simp [VP.any]
  | some o => cases o <;> simp [VP.opt, VP.any, VP.eq, eq_comm]
def layN (os : List (Option Value)) (ys : List Lay) : Bool := ys.all fun y => (match os[y.a]? with | some none => true | _ => false) && (match os[y.s]? with | some none => true | _ => false)
theorem wp_region_layE {P : Program} {id : Nat} {a : Act} {w : World} {l : List Oper} {Q : Exit → Act → World → Prop} (hm : P.follows .mixedOrders = true) (hB : invB l.toArray a.tmps.size = true)
    (os : List (Option Value)) (ys : List Lay) (hY : layB l ys = true) (hN : layN os ys = true)
    (hval : ∀ i o L vals w', l[i]? = some o → L i = false → (∀ e ∈ o.after, Region.binds .any e = true → L e.on = true) → Closed l L → Below w.heap.size w w' → (∀ k, L k = true → EqV os k (vals k)) → (∀ y ∈ ys, y.a ≠ i ∧ y.s ≠ i) →
      StepI P l.toArray Q i o (frA a l.toArray L vals) w' fun v w'' => EqV os i v ∧ Below w'.heap.size w' w'')
    (halloc : ∀ y ∈ ys, ∀ o L vals w', l[y.a]? = some o → StepI P l.toArray Q y.a o (frA a l.toArray L vals) w' fun v w'' => v = Lay.ptr w'.heap.size ∧ w'' = w'.alloc (.cells y.z.toArray y.t))
    (hstore : ∀ y ∈ ys, ∀ o L vals w' b, l[y.s]? = some o → L y.a = true → L y.r = true → Below w.heap.size w w' → (∀ k, L k = true → EqV os k (vals k)) → vals y.a = Lay.ptr b → w'.heap[b]? = some (.cells y.z.toArray y.t (0, 0)) →
      StepI P l.toArray Q y.s o (frA a l.toArray L vals) w' fun _ w'' => w'' = layCells w' b 0 (y.v (vals y.r)) ∧ (y.v (vals y.r)).length = y.z.length)
    (hend : ∀ vals w', Below w.heap.size w w' → (∀ k, k < l.length → EqV os k (vals k)) →
      (∀ y ∈ ys, ∃ b, vals y.a = Lay.ptr b ∧ w.heap.size ≤ b ∧ w'.heap[b]? = some (.cells (y.v (vals y.r)).toArray y.t (0, 0))) → (∀ y ∈ ys, ∀ y' ∈ ys, y.a ≠ y'.a → vals y.a ≠ vals y'.a) → Q .normal (putsL vals l 0 a) w') : (Code.region id l.toArray true).wp P Q a w := by
  have hN' : ∀ y ∈ ys, os[y.a]? = some none ∧ os[y.s]? = some none := fun y hy => by
    unfold layN at hN
    have := List.all_eq_true.1 hN y hy
    rw [Bool.and_eq_true] at this
    obtain ⟨h1, h2⟩ := this
    constructor
    · revert h1; split <;> simp_all
    · revert h2; split <;> simp_all
  have hall : ∀ {L : Nat → Bool} {vals : Nat → Value} {w' : World}, (∀ k, L k = true → (∀ y ∈ ys, y.a ≠ k ∧ y.s ≠ k) → (VP.at (os.map VP.opt) k).f (vals k) w') → ∀ k, L k = true → EqV os k (vals k) := fun h k hk => by
    by_cases hx : ∀ y ∈ ys, y.a ≠ k ∧ y.s ≠ k
    · exact (VP.opt_eq _ _ _ _).1 (h k hk hx)
    · have ⟨y, hy⟩ := Classical.not_forall.1 hx
      have ⟨hy, hn⟩ := Classical.not_imp.1 hy
      by_cases e : y.a = k
      · exact EqV.no (e ▸ (hN' y hy).1)
      · by_cases e' : y.s = k
        · exact EqV.no (e' ▸ (hN' y hy).2)
        · exact absurd ⟨e, e'⟩ hn
  refine wp_region_lay hm hB (os.map VP.opt) ys hY (fun k y _ v w' b cs cs' h _ _ => (VP.opt_eq _ _ _ _).2 ((VP.opt_eq _ _ _ _).1 h)) ?_ halloc ?_ ?_
  · intro i o L vals w' hi hL hdep hC hb hv hn K hK
    exact hval i o L vals w' hi hL hdep hC hb (hall hv) hn K fun v w'' h => hK v w'' ⟨(VP.opt_eq _ _ _ _).2 h.1, h.2⟩
  · intro y hy o L vals w' b hi h1 h2 hb hv
    exact hstore y hy o L vals w' b hi h1 h2 hb (hall hv)
  · intro vals w' hb hv
    exact hend vals w' hb fun k hk => hall (L := fun k => decide (k < l.length)) (w' := w') (fun k hk => hv k (by simpa using hk)) k (by simpa using hk)
end Go.Gz
namespace Go.Gz
open Go.RowKit

section
variable {α : Type} [Inhabited α] {K : SK α} {t : TypeId} {B : Nat} {v0 : Value} {X M : List α}
structure AppI (K : SK α) (t : TypeId) (B : Nat) (v0 : Value) (X M : List α) (w : World) (o fi : Nat) (cs : Array Value) (tq : TypeId) (fz : Nat × Nat) (bi ai si : Nat) (os : List (Option Value)) (L : Nat → Bool) (vals : Nat → Value) (w' : World) : Prop where
  kept : KeptF (fun j => j = o ∨ v0.ownBlock = some j) w w'
  obj : w'.heap[o]? = some (.cells (if L si then cs.setIfInBounds fi (vals ai) else cs) tq fz)
  old : L ai = false → OwnK K w' B t v0 X
  bld : L bi = true → ∃ b, vals bi = .slice (some ⟨b, 0, none⟩) M.length M.length ∧ (L ai = false → RowK K w' (some ⟨b, 0, none⟩) M)
  new : L ai = true → OwnK K w' B t (vals ai) (X ++ M) ∧ (vals ai).ownBlock ≠ some o
  ord : (L si = true → L ai = true) ∧ (L ai = true → L bi = true)
  val : ∀ k, L k = true → EqV os k (vals k)

theorem wp_region_app {P : Program} {id : Nat} {a : Act} {w : World} {l : List Oper} {Q : Exit → Act → World → Prop} (hm : P.follows .mixedOrders = true) (hB : invB l.toArray a.tmps.size = true)
    (os : List (Option Value)) (bi ai si : Nat) (hw1 : waitsB l si ai = true) (hw2 : waitsB l ai bi = true) (hne : ai ≠ bi ∧ si ≠ ai ∧ si ≠ bi) (hsz : bi < l.length ∧ ai < l.length ∧ si < l.length)
    (hos : os[bi]? = some none ∧ os[ai]? = some none ∧ os[si]? = some none)
    (o fi : Nat) (cs : Array Value) (tq : TypeId) (fz : Nat × Nat) (ho : w.heap[o]? = some (.cells cs tq fz)) (hog : v0.ownBlock ≠ some o) (hown : OwnK K w B t v0 X) (hBw : B ≤ w.heap.size)
    (hread : ∀ i opr L vals w', l[i]? = some opr → L i = false → (∀ e ∈ opr.after, Region.binds .any e = true → L e.on = true) → Closed l L → KeptF (fun j => j = o ∨ v0.ownBlock = some j) w w' → (L si = false → w'.heap[o]? = some (.cells cs tq fz)) → (∀ k, L k = true → EqV os k (vals k)) → i ≠ bi → i ≠ ai → i ≠ si →
      StepI P l.toArray Q i opr (frA a l.toArray L vals) w' fun v w'' => EqV os i v ∧ w'' = w')
    (hbuild : ∀ opr L vals w', l[bi]? = some opr → (∀ e ∈ opr.after, Region.binds .any e = true → L e.on = true) → Closed l L → (∀ k, L k = true → EqV os k (vals k)) →
      StepI P l.toArray Q bi opr (frA a l.toArray L vals) w' fun v w'' => v = .slice (some ⟨w'.heap.size, 0, none⟩) M.length M.length ∧ w'' = w'.alloc (.cells (K.flat M).toArray t))
    (happ : ∀ opr L vals w' b, l[ai]? = some opr → (∀ e ∈ opr.after, Region.binds .any e = true → L e.on = true) → Closed l L → L bi = true → (∀ k, L k = true → EqV os k (vals k)) → vals bi = .slice (some ⟨b, 0, none⟩) M.length M.length → RowK K w' (some ⟨b, 0, none⟩) M → OwnK K w' B t v0 X → B ≤ w'.heap.size →
      StepI P l.toArray Q ai opr (frA a l.toArray L vals) w' fun v w'' => OwnK K w'' B t v (X ++ M) ∧ w'.grownBy w'' v0.ownBlock ∧ (v.ownBlock = v0.ownBlock ∨ v.ownBlock = some w'.heap.size))
    (hstore : ∀ opr L vals w' q c, l[si]? = some opr → (∀ e ∈ opr.after, Region.binds .any e = true → L e.on = true) → Closed l L → L ai = true → (∀ k, L k = true → EqV os k (vals k)) → vals ai = .slice q (X ++ M).length c → w'.heap[o]? = some (.cells cs tq fz) →
      StepI P l.toArray Q si opr (frA a l.toArray L vals) w' fun _ w'' => w'' = w'.setCell ⟨o, fi, none⟩ (.slice q (X ++ M).length c))
    (hend : ∀ vals w', KeptF (fun j => j = o ∨ v0.ownBlock = some j) w w' → w'.heap[o]? = some (.cells (cs.setIfInBounds fi (vals ai)) tq fz) → OwnK K w' B t (vals ai) (X ++ M) → (∀ k, k < l.length → EqV os k (vals k)) → Q .normal (putsL vals l 0 a) w') : (Code.region id l.toArray true).wp P Q a w := by
  have hol : o < w.heap.size := (Array.getElem?_eq_some_iff.1 ho).1
  refine wp_region_invC hm hB (AppI K t B v0 X M w o fi cs tq fz bi ai si os) (fun vals => ⟨(KeptF.refl _ _).drew, ?_, fun _ => hown, fun h => (by cases h), fun h => (by cases h), ⟨fun h => (by cases h), fun h => (by cases h)⟩, fun k h => (by cases h)⟩) ?_ ?_
  · rw [if_neg (by simp)]; exact ho
  · intro i opr L vals w' hi hL hdep hC hI J hJ
    have keepV : ∀ v k, L k = true → updV vals i v k = vals k := fun v k hk => by
      unfold updV
      rw [if_neg (fun e => by subst e; rw [hL] at hk; cases hk)]
    have keepL : ∀ k, k ≠ i → updL L i k = L k := fun k hk => by unfold updL; rw [if_neg hk]
    have doneL : ∀ k, L k = true → updL L i k = true := fun k hk => by unfold updL; split <;> simp [hk]
    have selfL : updL L i i = true := by unfold updL; rw [if_pos rfl]
    have selfV : ∀ v, updV vals i v i = v := fun v => by unfold updV; rw [if_pos rfl]
    have vstep : ∀ v, EqV os i v → ∀ k, updL L i k = true → EqV os k (updV vals i v k) := fun v hv k hk => by
      by_cases e : k = i
      · subst e; rw [selfV]; exact hv
      · rw [keepL k e] at hk; rw [keepV _ k hk]; exact hI.val k hk
    have notT : ∀ {b : Bool}, ¬ b = true → b = false := fun h => by simpa using h
    by_cases hb : i = bi
    · subst hb
      have hna : L ai = false := notT fun h => by have := hI.ord.2 h; rw [hL] at this; cases this
      have hns : L si = false := notT fun h => by have := hI.ord.1 h; rw [hna] at this; cases this
      refine hbuild opr L vals w' hi hdep hC hI.val J fun v w'' ⟨hv, hw⟩ => hJ v w'' ?_
      subst hv hw
      have hb' : Below w'.heap.size w' (w'.alloc (.cells (K.flat M).toArray t)) := (Below.refl _ _).alloc (Nat.le_refl _) _
      refine ⟨hI.kept.alloc _, ?_, fun _ => (hI.old hna).alloc _, fun _ => ⟨w'.heap.size, selfV _, fun _ => RowK.block K (alloc_at _ _)⟩, fun h => ?_, ⟨fun h => ?_, fun _ => selfL⟩, vstep _ (EqV.no hos.1)⟩
      · rw [keepL _ hne.2.2, hns, if_neg (by simp), hb'.block o (by have := hI.kept.size; omega), hI.obj, hns, if_neg (by simp)]
      · rw [keepL _ hne.1, hna] at h; cases h
      · rw [keepL _ hne.2.2, hns] at h; cases h
    · by_cases ha : i = ai
      · subst ha
        have hbi := waits_of hw2 hi hdep
        obtain ⟨b, h1, h2⟩ := hI.bld hbi
        have hns : L si = false := notT fun h => by have := hI.ord.1 h; rw [hL] at this; cases this
        refine happ opr L vals w' b hi hdep hC hbi hI.val h1 (h2 hL) (hI.old hL) (Nat.le_trans hBw hI.kept.size) J fun v w'' ⟨h3, h4, h5⟩ => hJ v w'' ?_
        have hk2 : KeptF (fun k => v0.ownBlock = some k) w' w'' := KeptF.grown h4 fun g h => h
        refine ⟨hI.kept.trans hk2 fun i _ h => Or.inr h, ?_, fun h => ?_, fun _ => ⟨b, by rw [keepV _ _ hbi]; exact h1, fun h => ?_⟩, fun _ => ?_, ⟨fun _ => selfL, fun _ => doneL _ hbi⟩, vstep _ (EqV.no hos.2.1)⟩
        · rw [keepL _ hne.2.1, hns, if_neg (by simp), hk2.block o (by have := hI.kept.size; omega) (fun h => hog h), hI.obj, hns, if_neg (by simp)]
        · rw [selfL] at h; cases h
        · rw [selfL] at h; cases h
        · rw [selfV]
          refine ⟨h3, ?_⟩
          rcases h5 with h5 | h5
          · rw [h5]; exact hog
          · rw [h5]
            intro e
            injection e with e
            have := hI.kept.size
            omega
      · by_cases hs : i = si
        · subst hs
          have hai := waits_of hw1 hi hdep
          obtain ⟨h1, h2⟩ := hI.new hai
          obtain ⟨q, c, hv, -⟩ := h1.row
          have hob := hI.obj
          rw [hL, if_neg (by simp)] at hob
          refine hstore opr L vals w' q c hi hdep hC hai hI.val hv hob J fun v w'' hw => hJ v w'' ?_
          subst hw
          rw [← hv]
          refine ⟨hI.kept.set (Or.inl rfl) _, ?_, fun h => ?_, fun _ => ?_, fun _ => ?_, ⟨fun _ => doneL _ hai, fun _ => doneL _ (hI.ord.2 hai)⟩, vstep _ (EqV.no hos.2.2)⟩
          · rw [selfL, if_pos rfl, keepV _ _ hai]
            exact layCell_block hob fi _
          · rw [keepL _ (Ne.symm hne.2.1), hai] at h; cases h
          · obtain ⟨b, g1, g2⟩ := hI.bld (hI.ord.2 hai)
            refine ⟨b, by rw [keepV _ _ (hI.ord.2 hai)]; exact g1, fun h => ?_⟩
            rw [keepL _ (Ne.symm hne.2.1), hai] at h; cases h
          · rw [keepV _ _ hai]
            exact ⟨h1.setCell h2 _, h2⟩
        · refine hread i opr L vals w' hi hL hdep hC hI.kept (fun h => by have := hI.obj; rw [h, if_neg (by simp)] at this; exact this) hI.val hb ha hs J fun v w'' ⟨hv, hw⟩ => hJ v w'' ?_
          subst hw
          refine ⟨hI.kept, ?_, fun h => ?_, fun h => ?_, fun h => ?_, ?_, vstep _ hv⟩
          · rw [keepL _ (Ne.symm hs)]
            by_cases h : L si = true
            · rw [keepV _ _ (hI.ord.1 h)]; exact hI.obj
            · have := hI.obj; rw [if_neg h] at this ⊢; exact this
          · rw [keepL _ (Ne.symm ha)] at h; exact hI.old h
          · rw [keepL _ (Ne.symm hb)] at h
            obtain ⟨b, g1, g2⟩ := hI.bld h
            exact ⟨b, by rw [keepV _ _ h]; exact g1, fun h' => by rw [keepL _ (Ne.symm ha)] at h'; exact g2 h'⟩
          · rw [keepL _ (Ne.symm ha)] at h
            rw [keepV _ _ h]
            exact hI.new h
          · rw [keepL _ (Ne.symm hs), keepL _ (Ne.symm ha), keepL _ (Ne.symm hb)]
            exact hI.ord
  · intro vals w' hI
    have hsi : (fun i => decide (i < l.length)) si = true := by simpa using hsz.2.2
    have hai : (fun i => decide (i < l.length)) ai = true := by simpa using hsz.2.1
    have hob := hI.obj
    rw [if_pos hsi] at hob
    exact hend vals w' hI.kept hob (hI.new hai).1 fun k hk => hI.val k (by simpa using hk)
end
end Go.Gz
