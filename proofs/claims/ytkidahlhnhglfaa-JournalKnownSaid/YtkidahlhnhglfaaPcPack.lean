/-
  Layer parcel: what a packer does.
-/
import Derived.Test.YtkidahlhnhglfaaPcBase
namespace Go.Proofs.Ytkidahlhnhglfaa
open Go.RowKit

/-- pure: a packer's steps. -/
def layS (M : Nat) : Option (List UInt8) → List UInt8 → Option (List UInt8)
  | none, _ => none
  | some b, l => if b.length + l.length ≤ M then some (b ++ l) else none
def numS (M : Nat) (st : Option (List UInt8)) (x : Int) : Option (List UInt8) := if 0 ≤ x ∧ x ≤ 268435455 then layS M st (be4 x.toNat) else none
def textS (M : Nat) (st : Option (List UInt8)) (l : List UInt8) : Option (List UInt8) := layS M (numS M st l.length) l
theorem layS_bd {M : Nat} {st : Option (List UInt8)} {l b : List UInt8} (h : layS M st l = some b) : b.length ≤ M := by
  cases st with
  | none => cases h
  | some c =>
    by_cases hc : c.length + l.length ≤ M
    · rw [show layS M (some c) l = some (c ++ l) from if_pos hc] at h
      injection h with h
      subst h
      rw [List.length_append]; exact hc
    · rw [show layS M (some c) l = none from if_neg hc] at h
      cases h

/-- what a step of a packer leaves. -/
structure Laid (w : World) (B g M : Nat) (st : Option (List UInt8)) (w' : World) : Prop where
  pk : PkAt w' B g M st
  bl : Below B w w'
  fr : Fr w w'
theorem Laid.trans {w w1 w2 : World} {B g M : Nat} {st st2 : Option (List UInt8)} (h : Laid w B g M st w1) (k : Laid w1 B g M st2 w2) : Laid w B g M st2 w2 := ⟨k.pk, h.bl.trans k.bl, h.fr.trans k.fr⟩
theorem Laid.refl {w : World} {B g M : Nat} {st : Option (List UInt8)} (h : PkAt w B g M st) : Laid w B g M st w := ⟨h, Below.refl _ _, Fr.refl _⟩
theorem Laid.alloc {w w1 : World} {B g M : Nat} {st : Option (List UInt8)} (h : Laid w B g M st w1) (hB : B ≤ w.heap.size) (o : Obj) : Laid w B g M st (w1.alloc o) :=
  have hb : Below w1.heap.size w1 (w1.alloc o) := (Below.refl _ _).alloc (Nat.le_refl _) o
  ⟨h.pk.below hb, h.bl.trans (hb.mono (Nat.le_trans hB h.bl.size)), h.fr.trans (Fr.of_below hb)⟩

theorem below_set {B g o : Nat} {u : Value} (w : World) (hg : B ≤ g) : Below B w (w.setCell ⟨g, o, none⟩ u) := (Below.refl B w).setCell (p := ⟨g, o, none⟩) hg u

set_option maxHeartbeats 400000 in
theorem refuse_any (w : World) (B g M : Nat) (st : Option (List UInt8)) (h : PkAt w B g M st) :
    Calls Try.prog 59 #[.pointer (some ⟨g, 0, none⟩)] w fun e w' => e = .returned (.tuple #[]) ∧ Laid w B g M none w' := by
  obtain ⟨v, h1, h2⟩ := h.at_
  have c1 := cell_at h1 1
  have f1 := frozen_at h1 1
  have h3 := set_at h1 1 (.slice none 0 0)
  have c2 := cell_at h3 2
  have f2 := frozen_at h3 2
  have h4 := set_at h3 2 (.bool true)
  have HL := Lib.hid (show Laid w B g M none ((w.setCell ⟨g, 1, none⟩ (.slice none 0 0)).setCell ⟨g, 2, none⟩ (.bool true)) from
    ⟨⟨h.lo, (fun b hb => absurd hb (by simp)), _, h4, Own.nil _ _ _ _⟩, (below_set _ h.lo).trans (below_set _ h.lo), (fr_set h1).trans (fr_set h3)⟩)
  clear h h1 h2 h3 h4
  go_enter Try.func59, Try.ntmps59
  go_wp2_with fail
  exact bodyPost_end (v := .tuple #[]) (by simp [results, Try.results59]) rfl ⟨rfl, HL.out⟩

set_option maxHeartbeats 1000000 in
theorem lay_anyU (w : World) (B g M : Nat) (st : Option (List UInt8)) (l : List UInt8) (hB : B ≤ w.heap.size) (h : PkAt w B g M st) (hM : M ≤ 9223372036854775807) (hr : st = none ∨ M ≤ 1000000000000 ∨ (st.getD []).length + l.length ≤ 1000000000000) :
    Calls Try.prog 60 #[.pointer (some ⟨g, 0, none⟩), .string (strB l)] w fun e w' => e = .returned (.tuple #[]) ∧ Laid w B g M (layS M st l) w' := by
  obtain ⟨v, h1, h2⟩ := h.at_
  have HH := Lib.hid h
  cases st with
  | none =>
    simp only [Option.isNone_none] at h1
    have c0 := cell_at h1 0
    have c1 := cell_at h1 1
    have c2 := cell_at h1 2
    clear h h1 h2
    go_enter Try.func60, Try.ntmps60
    go_wp2_with fail
    exact bodyPost_end (v := .tuple #[]) (by simp [results, Try.results60]) rfl ⟨rfl, Laid.refl HH.out⟩
  | some b =>
    have hr := hr.resolve_left (by simp)
    have hbM := h.bd b rfl
    obtain ⟨p, c, rfl, hc, hp0, hrow⟩ := own_row h2
    simp only [Option.getD_some, nums_length, Option.isNone_some] at h1 hr h2
    obtain ⟨K, hK⟩ : ∃ K, b.length = K := ⟨_, rfl⟩
    rw [hK] at hr hbM h1 h2
    have d0 := fun m => cell_at (w := w.drewN m) h1 0
    have d1 := fun m => cell_at (w := w.drewN m) h1 1
    have c0 := cell_at h1 0
    have c1 := cell_at h1 1
    have c2 := cell_at h1 2
    have H1 := Lib.hid h1
    have HO := Lib.hid h2
    have HN := Lib.hid hK
    have HR := Lib.hid hr
    have hMz : (M : Int) ≤ 9223372036854775807 := by omega
    have hKz : (K : Int) ≤ (M : Int) := by omega
    have hsz := strB_size l
    by_cases hfit : K + l.length ≤ M
    · have hgt : decide ((M : Int) - (K : Int) < ((strB l).size : Int)) = false := by rw [hsz]; simp; omega
      have HS := Lib.hid (show layS M (some b) l = some (b ++ l) from (if_pos (by rw [hK]; exact hfit)))
      have hbd : b.length + l.length ≤ 1000000000000 := by omega
      have HL := Lib.hid (And.intro hbd (show (b ++ l).length ≤ M by rw [List.length_append]; omega))
      clear h h1 h2 hrow hp0 hr hsz hK hfit hbM hc hbd
      go_enter Try.func60, Try.ntmps60
      go_wp2_with fail
      go_quiet (fail)
      go_wp2_with (at_builtin; refine wpList_own_str rfl _ _ rfl B _ b rfl (HO.out.drewN _) l rfl HL.out.1 hB ?_)
      intro v' w2 hown hgrow
      obtain ⟨p', c', rfl, -⟩ := own_row hown
      obtain ⟨N, hN⟩ : ∃ N, (nums (b ++ l)).length = N := ⟨_, rfl⟩
      rw [hN] at hown ⊢
      clear hN
      have hna := PkAt.apart H1.out HO.out
      have h5 : w2.heap[g]? = some (.cells #[.int .i64 M, .slice p K c, .bool false] 107 (0, 0)) := by
        rw [hgrow.block g (by have := HH.out.lt; exact this) hna]; exact H1.out
      have c5 := cell_at h5 1
      have f5 := frozen_at h5 1
      have h6 := set_at h5 1 (.slice p' N c')
      have HB2 := Lib.hid ((below_drewN (Below.refl B w) nq).grown hgrow hB fun g hg => HO.out.lt g hg)
      have HL2 := Lib.hid (show Laid w B g M (layS M (some b) l) (w2.setCell ⟨g, 1, none⟩ (.slice p' N c')) from HS.out ▸
        ⟨⟨HH.out.lo, (fun x hx => by injection hx with hx; rw [← hx]; exact HL.out.2), _, h6, own_set hown (PkAt.apart h5 hown)⟩,
          HB2.out.trans (below_set _ HH.out.lo),
          ((Fr.of_below (below_drewN (Below.refl _ w) nq)).trans (fr_grown (HO.out.drewN nq) hgrow)).trans (fr_set h5)⟩)
      clear hown hgrow hna h5 h6 HB2
      go_wp2_with fail
      exact bodyPost_end (v := .tuple #[]) (by simp [results, Try.results60]) rfl ⟨rfl, HL2.out⟩
    · have hgt : decide ((M : Int) - (K : Int) < ((strB l).size : Int)) = true := by rw [hsz]; simp; omega
      have HS := Lib.hid (show layS M (some b) l = none from (if_neg (by rw [hK]; exact hfit)))
      have CR := Lib.hid (fun m => refuse_any (w.drewN m) B g M (some b) (h.below (below_drewN (Below.refl _ _) m)))
      clear h h1 h2 hrow hp0 hr hsz hK hfit hbM hc
      go_enter Try.func60, Try.ntmps60
      go_wp2_with fail
      go_quiet (fail)
      go_wp2_with fail
      refine (CR.out nq).mono ?_
      rintro e w2 ⟨rfl, hl2⟩
      have HL2 := Lib.hid (show Laid w B g M (layS M (some b) l) w2 from HS.out ▸ ⟨hl2.pk, (below_drewN (Below.refl _ _) nq).trans hl2.bl, (Fr.of_below (below_drewN (Below.refl _ w) nq)).trans hl2.fr⟩)
      clear hl2
      go_wp2_with fail
      exact bodyPost_end (v := .tuple #[]) (by simp [results, Try.results60]) rfl ⟨rfl, HL2.out⟩
theorem lay_any (w : World) (B g M : Nat) (st : Option (List UInt8)) (l : List UInt8) (hB : B ≤ w.heap.size) (h : PkAt w B g M st) (hM : M ≤ 9223372036854775807) (hr : M ≤ 1000000000000 ∨ (st.getD []).length + l.length ≤ 1000000000000) :
    Calls Try.prog 60 #[.pointer (some ⟨g, 0, none⟩), .string (strB l)] w fun e w' => e = .returned (.tuple #[]) ∧ Laid w B g M (layS M st l) w' := lay_anyU w B g M st l hB h hM (Or.inr hr)
end Go.Proofs.Ytkidahlhnhglfaa
