/-
  Layer atlas: what is known of a change's answer while a drawn region stores it.
-/
import Derived.Test.YtodcnemnajlbdaaAtPr0
namespace Go.Proofs.Ytodcnemnajlbdaa
open Go.RowKit Go.Gz

def vrRet (o : OutA) : VP := ⟨fun v w => ∃ p c q d, v = .tuple #[.agg #[.int .i64 o.ep, .slice p o.L.length c], .slice q o.gone.length d, .int .i64 o.err] ∧ RowK KS w p o.L ∧ Row w .i64 q o.gone ∧ TyP w p 40 ∧ TyP w q 3, fun _ _ _ ⟨p, c, q, d, h1, h2, h3, h4, h5⟩ hb => ⟨p, c, q, d, h1, h2.below hb, h3.below hb, h4.below hb, h5.below hb⟩⟩
def vrAt (o : OutA) : VP := ⟨fun v w => ∃ p c, v = .agg #[.int .i64 o.ep, .slice p o.L.length c] ∧ RowK KS w p o.L ∧ TyP w p 40, fun _ _ _ ⟨p, c, h1, h2, h3⟩ hb => ⟨p, c, h1, h2.below hb, h3.below hb⟩⟩
def vrGone (o : OutA) : VP := ⟨fun v w => ∃ q d, v = .slice q o.gone.length d ∧ Row w .i64 q o.gone ∧ TyP w q 3, fun _ _ _ ⟨q, d, h1, h2, h3⟩ hb => ⟨q, d, h1, h2.below hb, h3.below hb⟩⟩
def vrSp (x y : Value) : VP := ⟨fun v w => ∃ b, v = .slice (some ⟨b, 0, none⟩) 1 1 ∧ w.heap[b]? = some (.cells #[x, y] 38 (0, 0)), fun _ _ _ ⟨b, h1, h2⟩ hb => ⟨b, h1, by rw [hb.block b (Array.getElem?_eq_some_iff.1 h2).1]; exact h2⟩⟩
theorem row_lay {w : World} {q : Option Addr} {L : List Int} (h : Row w .i64 q L) {b : Nat} (hn : ∀ a, q = some a → a.block ≠ b) (o : Nat) (vs : List Value) : Row (layCells w b o vs) .i64 q L :=
  row_kept (F := fun k => k = b) h (KeptF.layCells (F := fun k => k = b) rfl vs o w (KeptF.refl _ _)) hn
def StaR (vp : VP) : Prop := ∀ v w o (cs : Array Value) (cs' : List Value) fz, vp.f v w → w.heap[o]? = some (.cells cs 26 fz) → vp.f v (layCells w o 0 cs')
theorem staR_eq (x : Value) : StaR (VP.eq x) := fun _ _ _ _ _ _ h _ => h
theorem staR_any : StaR VP.any := fun _ _ _ _ _ _ h _ => h
theorem staR_gone (o : OutA) : StaR (vrGone o) := fun _ _ _ _ _ _ ⟨q, d, h1, h2, h3⟩ hb => ⟨q, d, h1, row_lay h2 (h3.ne hb (by decide)) _ _, h3.layCells hb (by decide) _ _⟩
theorem staR_at (o : OutA) : StaR (vrAt o) := fun _ _ _ _ _ _ ⟨p, c, h1, h2, h3⟩ hb => ⟨p, c, h1, h2.layCells (h3.ne hb (by decide)) _ _, h3.layCells hb (by decide) _ _⟩
theorem staR_ret (o : OutA) : StaR (vrRet o) := fun _ _ _ _ _ _ ⟨p, c, q, d, h1, h2, h3, h4, h5⟩ hb => ⟨p, c, q, d, h1, h2.layCells (h4.ne hb (by decide)) _ _, row_lay h3 (h5.ne hb (by decide)) _ _, h4.layCells hb (by decide) _ _, h5.layCells hb (by decide) _ _⟩
theorem staR_sp (x y : Value) : StaR (vrSp x y) := fun _ w o _ _ _ ⟨b, h1, h2⟩ hb => ⟨b, h1, by
  rw [layCells_other o _ 0 w b (fun e => by
    rw [e, hb] at h2
    injection h2 with h2
    injection h2 with _ h2 _
    exact absurd h2 (by decide))]
  exact h2⟩
theorem staR_list (vs : List VP) (h : ∀ vp ∈ vs, StaR vp) : ∀ k v w o (cs : Array Value) fz (cs' : List Value), (VP.at vs k).f v w → w.heap[o]? = some (.cells cs 26 fz) → (VP.at vs k).f v (layCells w o 0 cs') := fun k v w o cs fz cs' hv hb => by
  unfold VP.at at hv ⊢
  cases hk : vs[k]? with
  | none => exact trivial
  | some vp =>
    rw [hk] at hv
    exact h vp (List.mem_of_getElem? hk) v w o cs cs' fz hv hb
end Go.Proofs.Ytodcnemnajlbdaa
