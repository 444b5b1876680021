/-
  A region whose order is fixed, walked by values as one that draws is (XRegMono): each operation by itself, whatever guards say, without a case for each way through it.
-/
import Derived.Test.YtfadpiipigkocaaMg07
namespace Go.Gz
open Go.RowKit

theorem wp_region_seq {P : Program} {id : Nat} {a : Act} {w : World} {l : List Oper} {Q : Exit → Act → World → Prop} (hB : invB l.toArray a.tmps.size = true)
    (vs : List VP)
    (hstep : ∀ i o L vals w', l[i]? = some o → L i = false → (∀ e ∈ o.after, Region.binds .any e = true → L e.on = true) → (∀ k, k < i → L k = true) → Below w.heap.size w w' → (∀ k, L k = true → (VP.at vs k).f (vals k) w') →
      StepI P l.toArray Q i o (frA a l.toArray L vals) w' fun v w'' => (VP.at vs i).f v w'' ∧ Below w'.heap.size w' w'')
    (hend : ∀ vals w', Below w.heap.size w w' → (∀ k, k < l.length → (VP.at vs k).f (vals k) w') → Q .normal (putsL vals l 0 a) w') : (Code.region id l.toArray false).wp P Q a w := by
  have key : ∀ (r : List Oper) (i : Nat) (vals : Nat → Value) (w' : World), i + r.length = l.length → l.drop i = r → Below w.heap.size w w' → (∀ k, k < i → (VP.at vs k).f (vals k) w') → wpList P l.toArray Q r (frA a l.toArray (fun j => decide (j < i)) vals) w' := by
    intro r
    induction r with
    | nil =>
      intro i vals w' hlen _ hb hV
      have hi : i = l.length := by simpa using hlen
      subst hi
      rw [frA_all hB]
      exact hend vals w' hb hV
    | cons o r ih =>
      intro i vals w' hlen hdrop hb hV
      rw [List.length_cons] at hlen
      have hil : i < l.length := by omega
      have ho : l[i]? = some o := by
        have : (l.drop i)[0]? = some o := by rw [hdrop]; rfl
        rw [List.getElem?_drop] at this
        simpa using this
      have hd : l.drop (i + 1) = r := by
        have : (l.drop i).drop 1 = r := by rw [hdrop]; rfl
        rwa [List.drop_drop] at this
      have hL : (fun j => decide (j < i)) i = false := by simp
      refine wpList_step fun K hK => ?_
      refine hstep i o (fun j => decide (j < i)) vals w' ho hL (fun e he hbd => ?_) (fun k hk => by simpa using hk) hb (fun k hk => hV k (by simpa using hk)) K (fun v w'' hJ => ?_)
      · have := invB_back hB (i := i) (o := o) (by simpa using ho) e he hbd
        simpa using this
      · have hdst : o.dst = dstOf l.toArray i := by unfold dstOf; simp [ho]
        rw [hdst, frA_put hB hL]
        have e1 : updL (fun j => decide (j < i)) i = fun j => decide (j < i + 1) := by
          funext j
          unfold updL
          by_cases h : j = i
          · rw [if_pos h]; simp; omega
          · rw [if_neg h]
            rw [Bool.eq_iff_iff]
            simp only [decide_eq_true_eq]
            omega
        rw [e1]
        refine hK _ _ (ih (i + 1) _ w'' (by omega) hd (hb.trans (hJ.2.mono hb.size)) (fun k hk => ?_))
        unfold updV
        by_cases h : k = i
        · rw [if_pos h, h]; exact hJ.1
        · rw [if_neg h]
          exact (VP.at vs k).hf _ w' w'' (hV k (by omega)) hJ.2
  refine wp_region ?_
  have e : List.range l.toArray.size = List.range' 0 l.length := by rw [List.range_eq_range']; simp
  rw [e, wpOps_eq_wpList l 0 (fun j => by simp)]
  have := key l 0 (fun _ => undef) w (by simp) rfl (Below.refl _ _) (fun k hk => by omega)
  have e2 : (fun j => decide (j < 0)) = fun _ => false := by funext j; simp
  rw [e2, frA_none] at this
  exact this
end Go.Gz
