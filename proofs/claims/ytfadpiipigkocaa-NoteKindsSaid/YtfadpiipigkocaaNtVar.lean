/-
  Layer note, pure: a note that may be, with what its kind does not have.
-/
import Derived.Test.YtfadpiipigkocaaMg27
namespace Go.Proofs.Ytfadpiipigkocaa
open Go.RowKit Go.Gz

def askOne : AskL := ⟨1, 0, 0, [], [], [], [], 0⟩
def repOne : RepL := ⟨0, 0, 0, true, [], [], [], false⟩
theorem few_size {n : NtL} (h : NtFew n) : sizeN n ≤ 999999999000 := (few_sm h).size
theorem var_tick {n : NtL} (h : MayF n) (L : LayOk n) (_ : NtFew n) : (packN { n with tk := 5 }).isSome = (n.kd == 5 || n.kd == 6) := by
  by_cases hk : n.kd = 5 ∨ n.kd = 6
  · rw [show (n.kd == 5 || n.kd == 6) = true by simp [hk]]
    exact may_some h.fr h.to_ h.ne ⟨h.fit.k, h.fit.ask, h.fit.rep, hk.imp_right Or.inl, h.fit.sp, h.fit.li, h.fit.mp⟩ ⟨L.kd, L.fr, L.to_, L.ep, ⟨by show (0 : Int) ≤ 5; decide, by show (5 : Int) ≤ 268435455; decide⟩, L.ask, L.rep, L.sf, L.st, L.lsn, L.ls, L.lan, L.la, L.ae, L.shn, L.sh, L.size⟩
  · rw [show (n.kd == 5 || n.kd == 6) = false by simp at hk ⊢; first | exact hk | omega]
    exact may_no (fun F => by
      rcases F.tk with q | q | q
      · exact hk (Or.inl q)
      · exact hk (Or.inr q)
      · simp at q)
theorem var_epoch {n : NtL} (h : MayF n) (L : LayOk n) (_ : NtFew n) : (packN { n with ep := 7 }).isSome = (decide (7 ≤ n.kd)) := by
  by_cases hk : 7 ≤ n.kd
  · rw [show (decide (7 ≤ n.kd)) = true by simp [hk]]
    exact may_some h.fr h.to_ h.ne ⟨h.fit.k, h.fit.ask, h.fit.rep, h.fit.tk, Or.inl hk, h.fit.li, h.fit.mp⟩ ⟨L.kd, L.fr, L.to_, ⟨by show (0 : Int) ≤ 7; decide, by show (7 : Int) ≤ 268435455; decide⟩, L.tk, L.ask, L.rep, L.sf, L.st, L.lsn, L.ls, L.lan, L.la, L.ae, L.shn, L.sh, L.size⟩
  · rw [show (decide (7 ≤ n.kd)) = false by simp at hk ⊢; first | exact hk | omega]
    exact may_no (fun F => by
      rcases F.sp with q | q
      · exact hk q
      · have := q.2; simp at this)
theorem var_ask {n : NtL} (h : MayF n) (L : LayOk n) (_ : NtFew n) : (packN { n with ask := askOne }).isSome = (n.kd == 1) := by
  by_cases hk : n.kd = 1
  · rw [show (n.kd == 1) = true by simp [hk]]
    exact may_some h.fr h.to_ h.ne ⟨h.fit.k, Or.inl hk, h.fit.rep, h.fit.tk, h.fit.sp, h.fit.li, h.fit.mp⟩ ⟨L.kd, L.fr, L.to_, L.ep, L.tk, rfl, L.rep, L.sf, L.st, L.lsn, L.ls, L.lan, L.la, L.ae, L.shn, L.sh, L.size⟩
  · rw [show (n.kd == 1) = false by simp at hk ⊢; first | exact hk | omega]
    exact may_no (fun F => by
      rcases F.ask with q | q
      · exact hk q
      · simp [askOne, askZ] at q)
theorem var_rep {n : NtL} (h : MayF n) (L : LayOk n) (_ : NtFew n) : (packN { n with rep := repOne }).isSome = (n.kd == 2) := by
  by_cases hk : n.kd = 2
  · rw [show (n.kd == 2) = true by simp [hk]]
    exact may_some h.fr h.to_ h.ne ⟨h.fit.k, h.fit.ask, Or.inl hk, h.fit.tk, h.fit.sp, h.fit.li, h.fit.mp⟩ ⟨L.kd, L.fr, L.to_, L.ep, L.tk, L.ask, rfl, L.sf, L.st, L.lsn, L.ls, L.lan, L.la, L.ae, L.shn, L.sh, L.size⟩
  · rw [show (n.kd == 2) = false by simp at hk ⊢; first | exact hk | omega]
    exact may_no (fun F => by
      rcases F.rep with q | q
      · exact hk q
      · simp [repOne, repZ] at q)
theorem var_list {n : NtL} (h : MayF n) (L : LayOk n) (hf : NtFew n) : (packN { n with ls := [([97], [])] }).isSome = (n.kd == 8 || n.kd == 9) := by
  by_cases hk : n.kd = 8 ∨ n.kd = 9
  · rw [show (n.kd == 8 || n.kd == 9) = true by simp [hk]]
    exact may_some h.fr h.to_ h.ne ⟨h.fit.k, h.fit.ask, h.fit.rep, h.fit.tk, h.fit.sp, hk.imp_right Or.inl, h.fit.mp⟩ ⟨L.kd, L.fr, L.to_, L.ep, L.tk, L.ask, L.rep, L.sf, L.st, by simp, fun x hx => by obtain rfl := List.mem_singleton.1 hx; decide, L.lan, L.la, L.ae, L.shn, L.sh, few_size ⟨hf.rl, by simp, hf.al, hf.ael, hf.hl⟩⟩
  · rw [show (n.kd == 8 || n.kd == 9) = false by simp at hk ⊢; first | exact hk | omega]
    exact may_no (fun F => by
      rcases F.li with q | q | q
      · exact hk (Or.inl q)
      · exact hk (Or.inr q)
      · have := q.1; simp at this)
theorem var_map {n : NtL} (h : MayF n) (L : LayOk n) (hf : NtFew n) : (packN { n with ae := 1, sh := sd1 1 }).isSome = (n.kd == 4 || n.kd == 6) := by
  by_cases hk : n.kd = 4 ∨ n.kd = 6
  · rw [show (n.kd == 4 || n.kd == 6) = true by simp [hk]]
    exact may_some h.fr h.to_ h.ne ⟨h.fit.k, h.fit.ask, h.fit.rep, h.fit.tk, h.fit.sp, h.fit.li, Or.inl ⟨hk, may_one (by decide)⟩⟩ ⟨L.kd, L.fr, L.to_, L.ep, L.tk, L.ask, L.rep, L.sf, L.st, L.lsn, L.ls, L.lan, L.la, ⟨by show (0 : Int) ≤ 1; decide, by show (1 : Int) ≤ 268435455; decide⟩, by simp [sd1], fun x hx => by obtain rfl := List.mem_singleton.1 hx; decide, few_size ⟨hf.rl, hf.ll, hf.al, hf.ael, by simp [sd1]⟩⟩
  · rw [show (n.kd == 4 || n.kd == 6) = false by simp at hk ⊢; first | exact hk | omega]
    exact may_no (fun F => by
      rcases F.mp with q | q
      · exact hk q.1
      · have := q.2.1; simp at this)
theorem var_kind {n : NtL} {k : Int} (hk : ¬ (1 ≤ k ∧ k ≤ 12)) : (packN { n with kd := k }).isSome = false := may_no (fun F => hk F.k)
theorem var_self {n : NtL} (h : MayF n) (L : LayOk n) : (packN n).isSome = true := may_some h.fr h.to_ h.ne h.fit L
end Go.Proofs.Ytfadpiipigkocaa
