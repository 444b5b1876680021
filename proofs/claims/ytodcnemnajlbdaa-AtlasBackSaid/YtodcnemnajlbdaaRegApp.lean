/-
  A drawn region that reads, builds a row of structs, appends it onto a row of the call's own, and stores the slice into a field: 'x.f = append(x.f, T{..})'. In whatever order it runs.
-/
import Derived.Test.YtodcnemnajlbdaaRegLay
import Derived.Test.YtodcnemnajlbdaaStRow
namespace Go.Gz
open Go.RowKit

section
variable {α : Type} [Inhabited α] {K : SK α} {t : TypeId} {B : Nat} {v0 : Value} {X M : List α}
structure AppI (K : SK α) (t : TypeId) (B : Nat) (v0 : Value) (X M : List α) (w : World) (o fi : Nat) (cs : Array Value) (to : TypeId) (fz : Nat × Nat) (bi ai si : Nat) (os : List (Option Value)) (L : Nat → Bool) (vals : Nat → Value) (w' : World) : Prop where
  kept : KeptF (fun j => j = o ∨ v0.ownBlock = some j) w w'
  obj : w'.heap[o]? = some (.cells (if L si then cs.setIfInBounds fi (vals ai) else cs) to fz)
  old : L ai = false → OwnK K w' B t v0 X
  bld : L bi = true → ∃ b, vals bi = .slice (some ⟨b, 0, none⟩) M.length M.length ∧ (L ai = false → RowK K w' (some ⟨b, 0, none⟩) M)
  new : L ai = true → OwnK K w' B t (vals ai) (X ++ M) ∧ (vals ai).ownBlock ≠ some o
  ord : (L si = true → L ai = true) ∧ (L ai = true → L bi = true)
  val : ∀ k, L k = true → EqV os k (vals k)

theorem wp_region_app {P : Program} {id : Nat} {a : Act} {w : World} {l : List Oper} {Q : Exit → Act → World → Prop} (hm : P.follows .mixedOrders = true) (hB : invB l.toArray a.tmps.size = true)
    (os : List (Option Value)) (bi ai si : Nat) (hw1 : waitsB l si ai = true) (hw2 : waitsB l ai bi = true) (hne : ai ≠ bi ∧ si ≠ ai ∧ si ≠ bi) (hsz : bi < l.length ∧ ai < l.length ∧ si < l.length)
    (hos : os[bi]? = some none ∧ os[ai]? = some none ∧ os[si]? = some none)
    (o fi : Nat) (cs : Array Value) (to : TypeId) (fz : Nat × Nat) (ho : w.heap[o]? = some (.cells cs to fz)) (hog : v0.ownBlock ≠ some o) (hown : OwnK K w B t v0 X) (hBw : B ≤ w.heap.size)
    (hread : ∀ i opr L vals w', l[i]? = some opr → L i = false → (∀ e ∈ opr.after, Region.binds .any e = true → L e.on = true) → Closed l L → KeptF (fun j => j = o ∨ v0.ownBlock = some j) w w' → (L si = false → w'.heap[o]? = some (.cells cs to fz)) → (∀ k, L k = true → EqV os k (vals k)) → i ≠ bi → i ≠ ai → i ≠ si →
      StepI P l.toArray Q i opr (frA a l.toArray L vals) w' fun v w'' => EqV os i v ∧ w'' = w')
    (hbuild : ∀ opr L vals w', l[bi]? = some opr → (∀ e ∈ opr.after, Region.binds .any e = true → L e.on = true) → Closed l L → (∀ k, L k = true → EqV os k (vals k)) →
      StepI P l.toArray Q bi opr (frA a l.toArray L vals) w' fun v w'' => v = .slice (some ⟨w'.heap.size, 0, none⟩) M.length M.length ∧ w'' = w'.alloc (.cells (K.flat M).toArray t))
    (happ : ∀ opr L vals w' b, l[ai]? = some opr → (∀ e ∈ opr.after, Region.binds .any e = true → L e.on = true) → Closed l L → L bi = true → (∀ k, L k = true → EqV os k (vals k)) → vals bi = .slice (some ⟨b, 0, none⟩) M.length M.length → RowK K w' (some ⟨b, 0, none⟩) M → OwnK K w' B t v0 X → B ≤ w'.heap.size →
      StepI P l.toArray Q ai opr (frA a l.toArray L vals) w' fun v w'' => OwnK K w'' B t v (X ++ M) ∧ w'.grownBy w'' v0.ownBlock ∧ (v.ownBlock = v0.ownBlock ∨ v.ownBlock = some w'.heap.size))
    (hstore : ∀ opr L vals w' q c, l[si]? = some opr → (∀ e ∈ opr.after, Region.binds .any e = true → L e.on = true) → Closed l L → L ai = true → (∀ k, L k = true → EqV os k (vals k)) → vals ai = .slice q (X ++ M).length c → w'.heap[o]? = some (.cells cs to fz) →
      StepI P l.toArray Q si opr (frA a l.toArray L vals) w' fun _ w'' => w'' = w'.setCell ⟨o, fi, none⟩ (.slice q (X ++ M).length c))
    (hend : ∀ vals w', KeptF (fun j => j = o ∨ v0.ownBlock = some j) w w' → w'.heap[o]? = some (.cells (cs.setIfInBounds fi (vals ai)) to fz) → OwnK K w' B t (vals ai) (X ++ M) → (∀ k, k < l.length → EqV os k (vals k)) → Q .normal (putsL vals l 0 a) w') : (Code.region id l.toArray true).wp P Q a w := by
  have hol : o < w.heap.size := (Array.getElem?_eq_some_iff.1 ho).1
  refine wp_region_invC hm hB (AppI K t B v0 X M w o fi cs to fz bi ai si os) (fun vals => ⟨(KeptF.refl _ _).drew, ?_, fun _ => hown, fun h => (by cases h), fun h => (by cases h), ⟨fun h => (by cases h), fun h => (by cases h)⟩, fun k h => (by cases h)⟩) ?_ ?_
  · rw [if_neg (by simp)]; exact ho
  · intro i opr L vals w' hi hL hdep hC hI J hJ
    have keepV : ∀ v k, L k = true → updV vals i v k = vals k := fun v k hk => by
      unfold updV
      rw [if_neg (fun e => by subst e; rw [hL] at hk; cases hk)]
    have keepL : ∀ k, k ≠ i → updL L i k = L k := fun k hk => by unfold updL; rw [if_neg hk]
    have doneL : ∀ k, L k = true → updL L i k = true := fun k hk => by unfold updL; split <;> simp [hk]
    have selfL : updL L i i = true := by unfold updL; rw [if_pos rfl]
    have selfV : ∀ v, updV vals i v i = v := fun v => by unfold updV; rw [if_pos rfl]
    have vstep : ∀ v, EqV os i v → ∀ k, updL L i k = true → EqV os k (updV vals i v k) := fun v hv k hk => by
      by_cases e : k = i
      · subst e; rw [selfV]; exact hv
      · rw [keepL k e] at hk; rw [keepV _ k hk]; exact hI.val k hk
    have notT : ∀ {b : Bool}, ¬ b = true → b = false := fun h => by simpa using h
    by_cases hb : i = bi
    · subst hb
      have hna : L ai = false := notT fun h => by have := hI.ord.2 h; rw [hL] at this; cases this
      have hns : L si = false := notT fun h => by have := hI.ord.1 h; rw [hna] at this; cases this
      refine hbuild opr L vals w' hi hdep hC hI.val J fun v w'' ⟨hv, hw⟩ => hJ v w'' ?_
      subst hv hw
      have hb' : Below w'.heap.size w' (w'.alloc (.cells (K.flat M).toArray t)) := (Below.refl _ _).alloc (Nat.le_refl _) _
      refine ⟨hI.kept.alloc _, ?_, fun _ => (hI.old hna).alloc _, fun _ => ⟨w'.heap.size, selfV _, fun _ => RowK.block K (alloc_at _ _)⟩, fun h => ?_, ⟨fun h => ?_, fun _ => selfL⟩, vstep _ (EqV.no hos.1)⟩
      · rw [keepL _ hne.2.2, hns, if_neg (by simp), hb'.block o (by have := hI.kept.size; omega), hI.obj, hns, if_neg (by simp)]
      · rw [keepL _ hne.1, hna] at h; cases h
      · rw [keepL _ hne.2.2, hns] at h; cases h
    · by_cases ha : i = ai
      · subst ha
        have hbi := waits_of hw2 hi hdep
        obtain ⟨b, h1, h2⟩ := hI.bld hbi
        have hns : L si = false := notT fun h => by have := hI.ord.1 h; rw [hL] at this; cases this
        refine happ opr L vals w' b hi hdep hC hbi hI.val h1 (h2 hL) (hI.old hL) (Nat.le_trans hBw hI.kept.size) J fun v w'' ⟨h3, h4, h5⟩ => hJ v w'' ?_
        have hk2 : KeptF (fun k => v0.ownBlock = some k) w' w'' := KeptF.grown h4 fun g h => h
        refine ⟨hI.kept.trans hk2 fun i _ h => Or.inr h, ?_, fun h => ?_, fun _ => ⟨b, by rw [keepV _ _ hbi]; exact h1, fun h => ?_⟩, fun _ => ?_, ⟨fun _ => selfL, fun _ => doneL _ hbi⟩, vstep _ (EqV.no hos.2.1)⟩
        · rw [keepL _ hne.2.1, hns, if_neg (by simp), hk2.block o (by have := hI.kept.size; omega) (fun h => hog h), hI.obj, hns, if_neg (by simp)]
        · rw [selfL] at h; cases h
        · rw [selfL] at h; cases h
        · rw [selfV]
          refine ⟨h3, ?_⟩
          rcases h5 with h5 | h5
          · rw [h5]; exact hog
          · rw [h5]
            intro e
            injection e with e
            have := hI.kept.size
            omega
      · by_cases hs : i = si
        · subst hs
          have hai := waits_of hw1 hi hdep
          obtain ⟨h1, h2⟩ := hI.new hai
          obtain ⟨q, c, hv, -⟩ := h1.row
          have hob := hI.obj
          rw [hL, if_neg (by simp)] at hob
          refine hstore opr L vals w' q c hi hdep hC hai hI.val hv hob J fun v w'' hw => hJ v w'' ?_
          subst hw
          rw [← hv]
          refine ⟨hI.kept.set (Or.inl rfl) _, ?_, fun h => ?_, fun _ => ?_, fun _ => ?_, ⟨fun _ => doneL _ hai, fun _ => doneL _ (hI.ord.2 hai)⟩, vstep _ (EqV.no hos.2.2)⟩
          · rw [selfL, if_pos rfl, keepV _ _ hai]
            exact layCell_block hob fi _
          · rw [keepL _ (Ne.symm hne.2.1), hai] at h; cases h
          · obtain ⟨b, g1, g2⟩ := hI.bld (hI.ord.2 hai)
            refine ⟨b, by rw [keepV _ _ (hI.ord.2 hai)]; exact g1, fun h => ?_⟩
            rw [keepL _ (Ne.symm hne.2.1), hai] at h; cases h
          · rw [keepV _ _ hai]
            exact ⟨h1.setCell h2 _, h2⟩
        · refine hread i opr L vals w' hi hL hdep hC hI.kept (fun h => by have := hI.obj; rw [h, if_neg (by simp)] at this; exact this) hI.val hb ha hs J fun v w'' ⟨hv, hw⟩ => hJ v w'' ?_
          subst hw
          refine ⟨hI.kept, ?_, fun h => ?_, fun h => ?_, fun h => ?_, ?_, vstep _ hv⟩
          · rw [keepL _ (Ne.symm hs)]
            by_cases h : L si = true
            · rw [keepV _ _ (hI.ord.1 h)]; exact hI.obj
            · have := hI.obj; rw [if_neg h] at this ⊢; exact this
          · rw [keepL _ (Ne.symm ha)] at h; exact hI.old h
          · rw [keepL _ (Ne.symm hb)] at h
            obtain ⟨b, g1, g2⟩ := hI.bld h
            exact ⟨b, by rw [keepV _ _ h]; exact g1, fun h' => by rw [keepL _ (Ne.symm ha)] at h'; exact g2 h'⟩
          · rw [keepL _ (Ne.symm ha)] at h
            rw [keepV _ _ h]
            exact hI.new h
          · rw [keepL _ (Ne.symm hs), keepL _ (Ne.symm ha), keepL _ (Ne.symm hb)]
            exact hI.ord
  · intro vals w' hI
    have hsi : (fun i => decide (i < l.length)) si = true := by simpa using hsz.2.2
    have hai : (fun i => decide (i < l.length)) ai = true := by simpa using hsz.2.1
    have hob := hI.obj
    rw [if_pos hsi] at hob
    exact hend vals w' hI.kept hob (hI.new hai).1 fun k hk => hI.val k (by simpa using hk)
end
end Go.Gz
