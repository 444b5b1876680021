/-
  Several texts in one: EntK, RegCapp.
-/
import Derived.Test.YtbhojddakmgdmaaMg16
import Derived.Test.YtbhojddakmgdmaaMg09
import Derived.Test.YtbhojddakmgdmaaMg20
namespace Go.Proofs.Ytbhojddakmgdmaa
open Go.RowKit Go.Gz

/-- an entry's cells. -/
def KE : SK Ent where
  cf := Ent.list
  n := 9
  len _ := rfl
  one e u hu := by
    simp only [Ent.list, List.mem_cons, List.not_mem_nil, or_false] at hu
    rcases hu with rfl | rfl | rfl | rfl | rfl | rfl | rfl | rfl | rfl <;> rfl
  pos := by decide
theorem ske_once : SKT Try.prog KE 93 39 zeroLast 104 := ⟨Try.underlying39, by kernel_rfl, by kernel_rfl, by decide⟩
theorem ownE_iff {w : World} {B : Nat} {t : TypeId} {v : Value} {L : List Ent} : OwnK KE w B t v L ↔ OwnE w B t v L := Iff.rfl
theorem rowE_iff {w : World} {p : Option Addr} {L : List Ent} : RowK KE w p L ↔ RowE w p L := Iff.rfl
end Go.Proofs.Ytbhojddakmgdmaa
namespace Go.Gz
open Go.RowKit

section
variable {α : Type} [Inhabited α] {K : SK α} {t : TypeId} {B : Nat} {v0 : Value} {X M : List α}
structure CappI (K : SK α) (t : TypeId) (B : Nat) (v0 : Value) (X M : List α) (w : World) (o fi : Nat) (cs : Array Value) (tq : TypeId) (fz : Nat × Nat) (ai si : Nat) (os : List (Option Value)) (vs : List VP) (L : Nat → Bool) (vals : Nat → Value) (w' : World) : Prop where
  kept : KeptF (fun j => j = o ∨ v0.ownBlock = some j) w w'
  obj : w'.heap[o]? = some (.cells (if L si then cs.setIfInBounds fi (vals ai) else cs) tq fz)
  old : L ai = false → OwnK K w' B t v0 X
  new : L ai = true → OwnK K w' B t (vals ai) (X ++ M) ∧ (vals ai).ownBlock ≠ some o
  ord : L si = true → L ai = true
  val : ∀ k, L k = true → EqV os k (vals k)
  prd : L ai = false → ∀ k, L k = true → (VP.at vs k).f (vals k) w'

theorem wp_region_capp {P : Program} {id : Nat} {a : Act} {w : World} {l : List Oper} {Q : Exit → Act → World → Prop} (hm : P.follows .mixedOrders = true) (hB : invB l.toArray a.tmps.size = true)
    (os : List (Option Value)) (vs : List VP) (ai si : Nat) (hw1 : waitsB l si ai = true) (hne : si ≠ ai) (hsz : ai < l.length ∧ si < l.length)
    (hos : os[ai]? = some none ∧ os[si]? = some none)
    (o fi : Nat) (cs : Array Value) (tq : TypeId) (fz : Nat × Nat) (ho : w.heap[o]? = some (.cells cs tq fz)) (hog : v0.ownBlock ≠ some o) (hown : OwnK K w B t v0 X) (hBw : B ≤ w.heap.size)
    (hread : ∀ i opr L vals w', l[i]? = some opr → L i = false → (∀ e ∈ opr.after, Region.binds .any e = true → L e.on = true) → Closed l L → KeptF (fun j => j = o ∨ v0.ownBlock = some j) w w' → (L si = false → w'.heap[o]? = some (.cells cs tq fz)) → (∀ k, L k = true → EqV os k (vals k)) → (L ai = false → ∀ k, L k = true → (VP.at vs k).f (vals k) w') → i ≠ ai → i ≠ si →
      StepI P l.toArray Q i opr (frA a l.toArray L vals) w' fun v w'' => EqV os i v ∧ (L ai = false → (VP.at vs i).f v w'') ∧ Below w'.heap.size w' w'')
    (happ : ∀ opr L vals w', l[ai]? = some opr → (∀ e ∈ opr.after, Region.binds .any e = true → L e.on = true) → Closed l L → KeptF (fun j => j = o ∨ v0.ownBlock = some j) w w' → (∀ k, L k = true → EqV os k (vals k)) → (∀ k, L k = true → (VP.at vs k).f (vals k) w') → OwnK K w' B t v0 X → B ≤ w'.heap.size →
      StepI P l.toArray Q ai opr (frA a l.toArray L vals) w' fun v w'' => OwnK K w'' B t v (X ++ M) ∧ w'.grownBy w'' v0.ownBlock ∧ (v.ownBlock = v0.ownBlock ∨ v.ownBlock = some w'.heap.size))
    (hstore : ∀ opr L vals w' q c, l[si]? = some opr → (∀ e ∈ opr.after, Region.binds .any e = true → L e.on = true) → Closed l L → L ai = true → (∀ k, L k = true → EqV os k (vals k)) → vals ai = .slice q (X ++ M).length c → w'.heap[o]? = some (.cells cs tq fz) →
      StepI P l.toArray Q si opr (frA a l.toArray L vals) w' fun _ w'' => w'' = w'.setCell ⟨o, fi, none⟩ (.slice q (X ++ M).length c))
    (hend : ∀ vals w', KeptF (fun j => j = o ∨ v0.ownBlock = some j) w w' → w'.heap[o]? = some (.cells (cs.setIfInBounds fi (vals ai)) tq fz) → OwnK K w' B t (vals ai) (X ++ M) → (∀ k, k < l.length → EqV os k (vals k)) → Q .normal (putsL vals l 0 a) w') : (Code.region id l.toArray true).wp P Q a w := by
  have hol : o < w.heap.size := (Array.getElem?_eq_some_iff.1 ho).1
  refine wp_region_invC hm hB (CappI K t B v0 X M w o fi cs tq fz ai si os vs) (fun vals => ⟨(KeptF.refl _ _).drew, ?_, fun _ => hown, fun h => (by cases h), fun h => (by cases h), fun k h => (by cases h), fun _ k h => (by cases h)⟩) ?_ ?_
  · rw [if_neg (by simp)]; exact ho
  · intro i opr L vals w' hi hL hdep hC hI J hJ
    have keepV : ∀ v k, L k = true → updV vals i v k = vals k := fun v k hk => by
      unfold updV
      rw [if_neg (fun e => by subst e; rw [hL] at hk; cases hk)]
    have keepL : ∀ k, k ≠ i → updL L i k = L k := fun k hk => by unfold updL; rw [if_neg hk]
    have doneL : ∀ k, L k = true → updL L i k = true := fun k hk => by unfold updL; split <;> simp [hk]
    have selfL : updL L i i = true := by unfold updL; rw [if_pos rfl]
    have selfV : ∀ v, updV vals i v i = v := fun v => by unfold updV; rw [if_pos rfl]
    have vstep : ∀ v, EqV os i v → ∀ k, updL L i k = true → EqV os k (updV vals i v k) := fun v hv k hk => by
      by_cases e : k = i
      · subst e; rw [selfV]; exact hv
      · rw [keepL k e] at hk; rw [keepV _ k hk]; exact hI.val k hk
    by_cases ha : i = ai
    · subst ha
      have hns : L si = false := by
        cases h : L si with
        | false => rfl
        | true => have := hI.ord h; rw [hL] at this; cases this
      refine happ opr L vals w' hi hdep hC hI.kept hI.val (hI.prd hL) (hI.old hL) (Nat.le_trans hBw hI.kept.size) J fun v w'' ⟨h3, h4, h5⟩ => hJ v w'' ?_
      have hk2 : KeptF (fun k => v0.ownBlock = some k) w' w'' := KeptF.grown h4 fun g h => h
      refine ⟨hI.kept.trans hk2 fun i _ h => Or.inr h, ?_, fun h => ?_, fun _ => ?_, fun _ => selfL, vstep _ (EqV.no hos.1), fun h => ?_⟩
      · rw [keepL _ hne, hns, if_neg (by simp), hk2.block o (by have := hI.kept.size; omega) (fun h => hog h), hI.obj, hns, if_neg (by simp)]
      · rw [selfL] at h; cases h
      · rw [selfV]
        refine ⟨h3, ?_⟩
        rcases h5 with h5 | h5
        · rw [h5]; exact hog
        · rw [h5]
          intro e
          injection e with e
          have := hI.kept.size
          omega
      · rw [selfL] at h; cases h
    · by_cases hs : i = si
      · subst hs
        have hai := waits_of hw1 hi hdep
        obtain ⟨h1, h2⟩ := hI.new hai
        obtain ⟨q, c, hv, -⟩ := h1.row
        have hob := hI.obj
        rw [hL, if_neg (by simp)] at hob
        refine hstore opr L vals w' q c hi hdep hC hai hI.val hv hob J fun v w'' hw => hJ v w'' ?_
        subst hw
        rw [← hv]
        refine ⟨hI.kept.set (Or.inl rfl) _, ?_, fun h => ?_, fun _ => ?_, fun _ => doneL _ hai, vstep _ (EqV.no hos.2), fun h => ?_⟩
        · rw [selfL, if_pos rfl, keepV _ _ hai]
          exact layCell_block hob fi _
        · rw [keepL _ (Ne.symm hne), hai] at h; cases h
        · rw [keepV _ _ hai]
          exact ⟨h1.setCell h2 _, h2⟩
        · rw [keepL _ (Ne.symm hne), hai] at h; cases h
      · refine hread i opr L vals w' hi hL hdep hC hI.kept (fun h => by have := hI.obj; rw [h, if_neg (by simp)] at this; exact this) hI.val hI.prd ha hs J fun v w'' ⟨hv, hp, hb⟩ => hJ v w'' ?_
        have hok : o < w'.heap.size := Nat.lt_of_lt_of_le hol hI.kept.size
        refine ⟨hI.kept.trans (KeptF.of_below (F := fun _ => False) hb) fun i _ h => h.elim, ?_, fun h => ?_, fun h => ?_, ?_, vstep _ hv, fun h k hk => ?_⟩
        · rw [hb.block o hok, keepL _ (Ne.symm hs)]
          by_cases h : L si = true
          · rw [keepV _ _ (hI.ord h)]; exact hI.obj
          · have := hI.obj; rw [if_neg h] at this ⊢; exact this
        · rw [keepL _ (Ne.symm ha)] at h; exact (hI.old h).below hb
        · rw [keepL _ (Ne.symm ha)] at h
          rw [keepV _ _ h]
          exact ⟨(hI.new h).1.below hb, (hI.new h).2⟩
        · rw [keepL _ (Ne.symm hs), keepL _ (Ne.symm ha)]
          exact hI.ord
        · rw [keepL _ (Ne.symm ha)] at h
          by_cases e : k = i
          · subst e; rw [selfV]; exact hp h
          · rw [keepL k e] at hk
            rw [keepV _ k hk]
            exact (VP.at vs k).hf _ _ _ (hI.prd h k hk) hb
  · intro vals w' hI
    have hsi : (fun i => decide (i < l.length)) si = true := by simpa using hsz.2
    have hai : (fun i => decide (i < l.length)) ai = true := by simpa using hsz.1
    have hob := hI.obj
    rw [if_pos hsi] at hob
    exact hend vals w' hI.kept hob (hI.new hai).1 fun k hk => hI.val k (by simpa using hk)
end
end Go.Gz
