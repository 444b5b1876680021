/-
  Layer once, the reference: cuts of a row of entries; an entry written in place.
-/
import Derived.Test.YtjlkfoaccllflaaOnAt
import Derived.Test.YtjlkfoaccllflaaRegMono
import Derived.WalkSpells
namespace Go.Proofs.Ytjlkfoaccllflaa
open Go.RowKit Go.Gz

/-- at[:k]. -/
theorem eslice_lo (pa : Option Addr) (m ca kk : Nat) (h : kk ≤ m) (hm : m ≤ ca) (hp : pa = none → ca = 0) (o : Oper) (a : Act) (w : World) (x k : Tmp) (ho : o.op = Op.slice 26 (.tmp x) none (some (.tmp k)) none) (h1 : a.tmps.getD x undef = .slice pa m ca) (h2 : a.tmps.getD k undef = .int .i64 kk) :
    (execOp a.eval o).run Try.prog w = .ok (.value (.slice pa kk ca)) w := by
  have e1 : (kk : Int) ≤ (m : Int) := by omega
  have e2 : (m : Int) ≤ (ca : Int) := by omega
  have e0 : (0 : Int) ≤ (kk : Int) := by omega
  have e3 : (kk : Int) ≤ (ca : Int) := by omega
  unfold execOp
  rw [ho]
  cases pa with
  | none =>
    obtain rfl := hp rfl
    obtain rfl : m = 0 := by omega
    obtain rfl : kk = 0 := by omega
    go_simp
  | some ad =>
    go_simp
/-- where at[k:] begins. -/
def ehiP (pa : Option Addr) (ca kk : Nat) : Option Addr := match pa with | none => none | some ad => some (if kk = ca then ad else ad.add (kk * 9))
theorem row_hi {w : World} {pa : Option Addr} {ss : List Ent} {ca kk : Nat} (h : RowE w pa ss) (hl : ss.length ≤ ca) : RowE w (ehiP pa ca kk) (ss.drop kk) := by
  cases pa with
  | none =>
    rcases h with h | ⟨b, o, hp, _⟩
    · exact Or.inl (by rw [h, List.drop_nil])
    · cases hp
  | some ad =>
    rcases h with h0 | ⟨b, o, hp, hlt, hc⟩
    · exact Or.inl (by rw [h0, List.drop_nil])
    · injection hp with hp
      subst hp
      unfold ehiP
      by_cases e : kk = ca
      · simp only [if_pos e]
        exact Or.inl (by rw [List.drop_eq_nil_iff]; omega)
      · simp only [if_neg e, Addr.add_lit]
        exact RowE.drop (Or.inr ⟨b, o, rfl, hlt, hc⟩) kk
theorem eslice_hi (pa : Option Addr) (m ca kk : Nat) (h : kk ≤ m) (hm : m ≤ ca) (hp : pa = none → ca = 0) (o : Oper) (a : Act) (w : World) (x k : Tmp) (ho : o.op = Op.slice 26 (.tmp x) (some (.tmp k)) none none) (h1 : a.tmps.getD x undef = .slice pa m ca) (h2 : a.tmps.getD k undef = .int .i64 kk) :
    (execOp a.eval o).run Try.prog w = .ok (.value (.slice (ehiP pa ca kk) (m - kk) (ca - kk))) w := by
  have e1 : (kk : Int) ≤ (m : Int) := by omega
  have e2 : (m : Int) ≤ (ca : Int) := by omega
  have e0 : (0 : Int) ≤ (kk : Int) := by omega
  have e3 : (kk : Int) ≤ (ca : Int) := by omega
  unfold execOp ehiP
  rw [ho]
  cases pa with
  | none =>
    obtain rfl := hp rfl
    obtain rfl : m = 0 := by omega
    obtain rfl : kk = 0 := by omega
    go_simp
  | some ad =>
    by_cases e : kk = ca
    · obtain rfl : m = ca := by omega
      subst e
      go_simp
    · go_simp
      exact fun h => absurd h.symm e
theorem sets_mid (g : Nat) (t : TypeId) (fz : Nat × Nat) : ∀ (vs pre mid post : List Value) (w : World), mid.length = vs.length → w.heap[g]? = some (.cells (pre ++ mid ++ post).toArray t fz) → (sets w g pre.length vs).heap[g]? = some (.cells (pre ++ vs ++ post).toArray t fz)
  | [], pre, mid, post, w, hl, h => by
    obtain rfl : mid = [] := List.eq_nil_of_length_eq_zero hl
    exact h
  | v :: r, pre, mid, post, w, hl, h => by
    cases mid with
    | nil => simp at hl
    | cons x mid =>
      have h1 := set_block h pre.length v
      have e : ((pre ++ x :: mid ++ post).toArray.setIfInBounds pre.length v) = ((pre ++ [v]) ++ mid ++ post).toArray := by simp
      rw [e] at h1
      have h2 := sets_mid g t fz r (pre ++ [v]) mid post _ (by simpa using hl) h1
      simp only [List.length_append, List.length_cons, List.length_nil, List.append_assoc, List.cons_append, List.nil_append] at h2 ⊢
      exact h2
/-- an entry written over another. -/
theorem OwnE.write {w : World} {B : Nat} {t : TypeId} {g n d : Nat} {L : List Ent} (h : OwnE w B t (.slice (some ⟨g, 0, none⟩) n d) L) (k : Nat) (hk : k < L.length) (e : Ent) :
    OwnE (sets w g (k * 9) e.list) B t (.slice (some ⟨g, 0, none⟩) n d) (L.take k ++ e :: L.drop (k + 1)) := by
  obtain ⟨h1, ⟨h2, _⟩ | ⟨g', cap, cur, he, hg, hh, hc, hm, hs, ht⟩⟩ := h
  · cases h2
  injection he with he1 he2 he3
  injection he1 with he1
  injection he1 with he1
  subst he1 he2 he3
  have hl : flatE L = flatE (L.take k) ++ (L.getD k default).list ++ flatE (L.drop (k + 1)) := by
    have : L = L.take k ++ L.getD k default :: L.drop (k + 1) := by
      rw [show L.getD k default = L[k] by simp [List.getD, hk], List.getElem_cons_drop, List.take_append_drop]
    conv => lhs; rw [this]
    rw [flatE_app]
    show flatE (L.take k) ++ ((L.getD k default).list ++ flatE (L.drop (k + 1))) = _
    rw [List.append_assoc]
  have hcur : cur = (flatE (L.take k) ++ (L.getD k default).list ++ (flatE (L.drop (k + 1)) ++ cur.toList.drop (L.length * 9))).toArray := by
    apply Array.ext'
    simp only
    rw [← List.append_assoc, ← hl, ← ht, List.take_append_drop]
  have hlen : (flatE (L.take k)).length = k * 9 := by rw [flatE_len, List.length_take]; omega
  rw [hcur] at hh
  have hw := sets_mid g t (0, 0) e.list (flatE (L.take k)) (L.getD k default).list _ w rfl hh
  rw [hlen] at hw
  have hfl : flatE (L.take k ++ e :: L.drop (k + 1)) = flatE (L.take k) ++ e.list ++ flatE (L.drop (k + 1)) := by
    rw [flatE_app]
    show flatE (L.take k) ++ (e.list ++ flatE (L.drop (k + 1))) = _
    rw [List.append_assoc]
  have hll : (L.take k ++ e :: L.drop (k + 1)).length = L.length := by simp; omega
  unfold OwnE
  rw [hll]
  refine ⟨by rw [flatE_len, hll], Or.inr ⟨g, d, _, rfl, hg, hw, by omega, hm, ?_, ?_⟩⟩
  · have e9 : e.list.length = 9 := rfl
    have ho : (L.getD k default).list.length = 9 := rfl
    have hc2 := congrArg Array.size hcur
    simp only [List.size_toArray, List.length_append, e9, ho] at hc2 ⊢
    omega
  · show (flatE (L.take k) ++ e.list ++ (flatE (L.drop (k + 1)) ++ cur.toList.drop (L.length * 9))).take (L.length * 9) = _
    rw [hfl, ← List.append_assoc, List.take_append_of_le_length, List.take_of_length_le]
    · simp only [List.length_append, flatE_len, List.length_take, List.length_drop]
      show min k L.length * 9 + 9 + _ ≤ _
      omega
    · simp only [List.length_append, flatE_len, List.length_take, List.length_drop]
      show _ ≤ min k L.length * 9 + 9 + _
      omega
end Go.Proofs.Ytjlkfoaccllflaa
