/-
  Cuts of rows of texts.
-/
import Derived.Test.YtafmglnjheeajaaSpOwn
import Derived.Test.YtafmglnjheeajaaRegInv
import Derived.WalkSpells
namespace Go.Proofs.Ytafmglnjheeajaa
open Go.RowKit Go.Gz

theorem strs_take {w : World} {p : Option Addr} {ss : List ByteArray} (h : Strs w p ss) (k : Nat) : Strs w p (ss.take k) := by
  rcases h with h | ⟨b, o, hp, hl, hc⟩
  · exact Or.inl (by rw [h, List.take_nil])
  · exact Or.inr ⟨b, o, hp, hl, fun j hj => by
      rw [List.length_take] at hj
      rw [hc j (by omega)]
      simp [List.getD, show j < k by omega]⟩
theorem strs_drop {w : World} {b o : Nat} {ss : List ByteArray} (h : Strs w (some ⟨b, o, none⟩) ss) (k : Nat) : Strs w (some ⟨b, o + k, none⟩) (ss.drop k) := by
  rcases h with h | ⟨b', o', hp, hl, hc⟩
  · exact Or.inl (by rw [h, List.drop_nil])
  · injection hp with hp
    injection hp with h1 h2
    subst h1; subst h2
    refine Or.inr ⟨b, o + k, rfl, hl, fun j hj => ?_⟩
    rw [List.length_drop] at hj
    rw [show o + k + j = o + (k + j) by omega, hc (k + j) (by omega)]
    simp [List.getD, List.getElem?_drop]
/-- at[:k]. -/
theorem slice_lo (pa : Option Addr) (m ca kk : Nat) (h : kk ≤ m) (hm : m ≤ ca) (hp : pa = none → ca = 0) (o : Oper) (a : Act) (w : World) (x k : Tmp) (ho : o.op = Op.slice 32 (.tmp x) none (some (.tmp k)) none) (h1 : a.tmps.getD x undef = .slice pa m ca) (h2 : a.tmps.getD k undef = .int .i64 kk) :
    (execOp a.eval o).run Try.prog w = .ok (.value (.slice pa kk ca)) w := by
  have e1 : (kk : Int) ≤ (m : Int) := by omega
  have e2 : (m : Int) ≤ (ca : Int) := by omega
  have e0 : (0 : Int) ≤ (kk : Int) := by omega
  have e3 : (kk : Int) ≤ (ca : Int) := by omega
  unfold execOp
  rw [ho]
  cases pa with
  | none =>
    obtain rfl := hp rfl
    obtain rfl : m = 0 := by omega
    obtain rfl : kk = 0 := by omega
    go_simp
  | some ad =>
    go_simp
/-- where at[k:] begins. -/
def hiP (pa : Option Addr) (ca kk : Nat) : Option Addr := match pa with | none => none | some ad => some (if kk = ca then ad else ad.add kk)
theorem strs_hi {w : World} {pa : Option Addr} {ss : List ByteArray} {ca kk : Nat} (h : Strs w pa ss) (hl : ss.length ≤ ca) : Strs w (hiP pa ca kk) (ss.drop kk) := by
  cases pa with
  | none =>
    rcases h with h | ⟨b, o, hp, _⟩
    · exact Or.inl (by rw [h, List.drop_nil])
    · cases hp
  | some ad =>
    rcases h with h0 | ⟨b, o, hp, hlt, hc⟩
    · exact Or.inl (by rw [h0, List.drop_nil])
    · injection hp with hp
      subst hp
      unfold hiP
      by_cases e : kk = ca
      · simp only [if_pos e]
        exact Or.inl (by rw [List.drop_eq_nil_iff]; omega)
      · simp only [if_neg e, Addr.add_lit]
        exact strs_drop (Or.inr ⟨b, o, rfl, hlt, hc⟩) kk
theorem slice_hi (pa : Option Addr) (m ca kk : Nat) (h : kk ≤ m) (hm : m ≤ ca) (hp : pa = none → ca = 0) (o : Oper) (a : Act) (w : World) (x k : Tmp) (ho : o.op = Op.slice 32 (.tmp x) (some (.tmp k)) none none) (h1 : a.tmps.getD x undef = .slice pa m ca) (h2 : a.tmps.getD k undef = .int .i64 kk) :
    (execOp a.eval o).run Try.prog w = .ok (.value (.slice (hiP pa ca kk) (m - kk) (ca - kk))) w := by
  have e1 : (kk : Int) ≤ (m : Int) := by omega
  have e2 : (m : Int) ≤ (ca : Int) := by omega
  have e0 : (0 : Int) ≤ (kk : Int) := by omega
  have e3 : (kk : Int) ≤ (ca : Int) := by omega
  unfold execOp hiP
  rw [ho]
  cases pa with
  | none =>
    obtain rfl := hp rfl
    obtain rfl : m = 0 := by omega
    obtain rfl : kk = 0 := by omega
    go_simp
  | some ad =>
    by_cases e : kk = ca
    · obtain rfl : m = ca := by omega
      subst e
      go_simp
    · go_simp
      exact fun h => absurd h.symm e
end Go.Proofs.Ytafmglnjheeajaa
