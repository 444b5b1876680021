/-
  A drawn region that reckons values (calls among them, whose answers are known only by what holds of them), and stores one of them into a block that was there: 'b, gone, e = f(a, ..)'. In whatever order it runs.
-/
import Derived.Test.YtodcnemnajlbdaaRegLay
import Derived.Test.YtodcnemnajlbdaaStRow
namespace Go.Gz
open Go.RowKit

/-- the block that p points into is of the type t. -/
def TyP (w : World) (p : Option Addr) (t : TypeId) : Prop := ∀ a, p = some a → ∃ cs fz, w.heap[a.block]? = some (.cells cs t fz)
theorem TyP.none (w : World) (t : TypeId) : TyP w none t := fun a h => by cases h
theorem TyP.below {w w' : World} {p : Option Addr} {t : TypeId} (h : TyP w p t) (hb : Below w.heap.size w w') : TyP w' p t := fun a ha => by
  obtain ⟨cs, fz, e⟩ := h a ha
  exact ⟨cs, fz, by rw [hb.block _ (Array.getElem?_eq_some_iff.1 e).1]; exact e⟩
theorem TyP.kept {F : Nat → Prop} {w w' : World} {p : Option Addr} {t : TypeId} (h : TyP w p t) (hk : KeptF F w w') (hF : ∀ a, p = some a → ¬ F a.block) : TyP w' p t := fun a ha => by
  obtain ⟨cs, fz, e⟩ := h a ha
  exact ⟨cs, fz, by rw [hk.block _ (Array.getElem?_eq_some_iff.1 e).1 (hF a ha)]; exact e⟩
theorem TyP.ne {w : World} {p : Option Addr} {t t' : TypeId} (h : TyP w p t) {b : Nat} {cs : Array Value} {fz : Nat × Nat} (hb : w.heap[b]? = some (.cells cs t' fz)) (hn : t ≠ t') : ∀ a, p = some a → a.block ≠ b := fun a ha e => by
  obtain ⟨cs', fz', h1⟩ := h a ha
  rw [e, hb] at h1
  injection h1 with h1
  injection h1 with _ h1 _
  exact hn h1.symm
theorem TyP.layCells {w : World} {p : Option Addr} {t t' : TypeId} (h : TyP w p t) {b : Nat} {cs : Array Value} {fz : Nat × Nat} (hb : w.heap[b]? = some (.cells cs t' fz)) (hn : t ≠ t') (o : Nat) (vs : List Value) : TyP (layCells w b o vs) p t := fun a ha => by
  obtain ⟨cs', fz', h1⟩ := h a ha
  exact ⟨cs', fz', by rw [layCells_other b vs o w _ (h.ne hb hn a ha)]; exact h1⟩
theorem KeptF.layCells {F : Nat → Prop} {a : World} {b : Nat} (hF : F b) : ∀ (vs : List Value) (o : Nat) (w : World), KeptF F a w → KeptF F a (layCells w b o vs)
  | [], _, _, h => h
  | v :: vs, o, _, h => KeptF.layCells hF vs (o + 1) _ (h.set (p := ⟨b, o, none⟩) hF v)
theorem RowK.layCells {α : Type} [Inhabited α] {K : SK α} {w : World} {p : Option Addr} {L : List α} (h : RowK K w p L) {b : Nat} (hn : ∀ a, p = some a → a.block ≠ b) (o : Nat) (vs : List Value) : RowK K (layCells w b o vs) p L :=
  h.kept (F := fun k => k = b) (KeptF.layCells (F := fun k => k = b) rfl vs o w (KeptF.refl _ _)) hn

structure PutI (w0 : World) (vs : List VP) (si ri o : Nat) (cs : List Value) (t : TypeId) (fz : Nat × Nat) (g : Value → List Value) (L : Nat → Bool) (vals : Nat → Value) (w : World) : Prop where
  kept : KeptF (fun j => j = o) w0 w
  val : ∀ k, L k = true → k ≠ si → (VP.at vs k).f (vals k) w
  wait : L si = true → L ri = true
  obj : w.heap[o]? = some (.cells (if L si then g (vals ri) else cs).toArray t fz)

theorem wp_region_put {P : Program} {id : Nat} {a : Act} {w : World} {l : List Oper} {Q : Exit → Act → World → Prop} (hm : P.follows .mixedOrders = true) (hB : invB l.toArray a.tmps.size = true)
    (vs : List VP) (si ri : Nat) (hw : waitsB l si ri = true) (hlt : si < l.length ∧ ri < l.length ∧ ri ≠ si) (o : Nat) (cs : List Value) (t : TypeId) (fz : Nat × Nat) (g : Value → List Value) (ho : w.heap[o]? = some (.cells cs.toArray t fz))
    (hsta : ∀ k v w' cs' cs'', (VP.at vs k).f v w' → w'.heap[o]? = some (.cells cs' t fz) → (VP.at vs k).f v (layCells w' o 0 cs''))
    (hval : ∀ i opr L vals w', l[i]? = some opr → L i = false → (∀ e ∈ opr.after, Region.binds .any e = true → L e.on = true) → Closed l L → KeptF (fun j => j = o) w w' → (L si = false → w'.heap[o]? = some (.cells cs.toArray t fz)) → (∀ k, L k = true → k ≠ si → (VP.at vs k).f (vals k) w') → i ≠ si →
      StepI P l.toArray Q i opr (frA a l.toArray L vals) w' fun v w'' => (VP.at vs i).f v w'' ∧ Below w'.heap.size w' w'')
    (hstore : ∀ opr L vals w', l[si]? = some opr → L ri = true → (∀ e ∈ opr.after, Region.binds .any e = true → L e.on = true) → Closed l L → KeptF (fun j => j = o) w w' → w'.heap[o]? = some (.cells cs.toArray t fz) → (∀ k, L k = true → k ≠ si → (VP.at vs k).f (vals k) w') →
      StepI P l.toArray Q si opr (frA a l.toArray L vals) w' fun _ w'' => w'' = layCells w' o 0 (g (vals ri)) ∧ (g (vals ri)).length = cs.length)
    (hend : ∀ vals w', KeptF (fun j => j = o) w w' → (∀ k, k < l.length → k ≠ si → (VP.at vs k).f (vals k) w') → w'.heap[o]? = some (.cells (g (vals ri)).toArray t fz) → Q .normal (putsL vals l 0 a) w') : (Code.region id l.toArray true).wp P Q a w := by
  have hol : o < w.heap.size := (Array.getElem?_eq_some_iff.1 ho).1
  refine wp_region_invC hm hB (PutI w vs si ri o cs t fz g) (fun vals => ⟨(KeptF.refl _ _).drew, fun k h => (by cases h), fun h => (by cases h), ?_⟩) ?_ ?_
  · rw [if_neg (by simp)]; exact ho
  · intro i opr L vals w' hi hL hdep hC hI J hJ
    have keepV : ∀ v k, L k = true → updV vals i v k = vals k := fun v k hk => by
      unfold updV
      rw [if_neg (fun e => by subst e; rw [hL] at hk; cases hk)]
    have keepL : ∀ k, k ≠ i → updL L i k = L k := fun k hk => by unfold updL; rw [if_neg hk]
    have doneL : ∀ k, L k = true → updL L i k = true := fun k hk => by unfold updL; split <;> simp [hk]
    have selfL : updL L i i = true := by unfold updL; rw [if_pos rfl]
    have selfV : ∀ v, updV vals i v i = v := fun v => by unfold updV; rw [if_pos rfl]
    by_cases hs : i = si
    · subst hs
      have hri := waits_of hw hi hdep
      have hob := hI.obj
      rw [hL, if_neg (by simp)] at hob
      refine hstore opr L vals w' hi hri hdep hC hI.kept hob hI.val J fun v w'' ⟨hw', hlen⟩ => hJ v w'' ?_
      subst hw'
      refine ⟨KeptF.layCells (F := fun j => j = o) rfl _ _ _ hI.kept, fun k hk hn => ?_, fun _ => doneL _ hri, ?_⟩
      · rw [keepL _ hn] at hk
        rw [keepV _ _ hk]
        exact hsta k _ w' _ _ (hI.val k hk hn) hob
      · rw [selfL, if_pos rfl, keepV _ _ hri]
        exact layCells_all _ hob hlen
    · refine hval i opr L vals w' hi hL hdep hC hI.kept (fun h => by have := hI.obj; rw [h, if_neg (by simp)] at this; exact this) hI.val hs J fun v w'' ⟨hv, hb⟩ => hJ v w'' ?_
      have hok : o < w'.heap.size := Nat.lt_of_lt_of_le hol hI.kept.size
      refine ⟨hI.kept.trans (KeptF.of_below (F := fun j => j = o) hb) fun i _ h => h, fun k hk hn => ?_, fun h => ?_, ?_⟩
      · by_cases e : k = i
        · subst e; rw [selfV]; exact hv
        · rw [keepL k e] at hk
          rw [keepV _ k hk]
          exact (VP.at vs k).hf _ _ _ (hI.val k hk hn) hb
      · rw [keepL _ (Ne.symm hs)] at h
        exact doneL _ (hI.wait h)
      · rw [keepL _ (Ne.symm hs), hb.block o hok, hI.obj]
        by_cases h : L si = true
        · rw [if_pos h, if_pos h, keepV _ _ (hI.wait h)]
        · rw [if_neg h, if_neg h]
  · intro vals w' hI
    have hob := hI.obj
    rw [if_pos (by simpa using hlt.1)] at hob
    exact hend vals w' hI.kept (fun k hk hn => hI.val k (by simpa using hk) hn) hob
end Go.Gz
