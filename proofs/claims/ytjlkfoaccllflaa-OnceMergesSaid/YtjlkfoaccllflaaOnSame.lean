/-
  Layer once, the law's: two rows of entries are the same.
-/
import Derived.Test.YtjlkfoaccllflaaOnMem
import Derived.Test.YtjlkfoaccllflaaPcSame
import Derived.Test.YtjlkfoaccllflaaQuietBelow
import Derived.LoopTactic
namespace Go.Proofs.Ytjlkfoaccllflaa
open Go.RowKit Go.Gz

theorem sem_step {X Y : List Ent} {k : Nat} (hx : k < X.length) (hy : k < Y.length) (h : (semL X).take k = (semL Y).take k) : (semL X).take (k + 1) = (semL Y).take (k + 1) ↔ (X.getD k default).sem = (Y.getD k default).sem := by
  have hx' : k < (semL X).length := by simpa [semL] using hx
  have hy' : k < (semL Y).length := by simpa [semL] using hy
  rw [List.take_succ_eq_append_getElem hx', List.take_succ_eq_append_getElem hy', h]
  have e1 : (semL X)[k] = (X.getD k default).sem := by simp [semL, List.getD, hx]
  have e2 : (semL Y)[k] = (Y.getD k default).sem := by simp [semL, List.getD, hy]
  rw [e1, e2]
  simp
theorem same_reply (r r' : RepL) (p p' : Option Addr) (k k' : Nat) (w : World) (B : Bool) (hB : B = true ↔ r = r') (hp : Recs w p r.ls) (hp' : Recs w p' r'.ls) (hl : r.ls.length ≤ 300) (hl' : r'.ls.length ≤ 300) :
    Calls Try.prog 22 #[repV r p k, repV r' p' k'] w fun e w' => e = .returned (.bool B) ∧ Below w.heap.size w w' := by
  refine (same_any r r' p p' k k' w hp hp' (by omega) (by omega)).mono ?_
  rintro e w' ⟨b, rfl, hb, hbl⟩
  have : b = B := by
    cases b <;> cases B <;> simp_all
  rw [this]
  exact ⟨rfl, hbl⟩
def RetSa (w : World) (X Y : List Ent) (e : Ending) (w' : World) : Prop := ∃ B : Bool, e = .returned (.bool B) ∧ (B = true ↔ semL X = semL Y) ∧ Below w.heap.size w w'

set_option maxHeartbeats 8000000 in
set_option maxRecDepth 100000 in
theorem sameE_any (w : World) (X Y : List Ent) (p q : Option Addr) (ca cb : Nat) (hp : RowE w p X) (hq : RowE w q Y) (hX : EntsIn w X) (hY : EntsIn w Y) (hX1 : X.length ≤ 2000) (hY1 : Y.length ≤ 2000) :
    Calls Try.prog 12 #[.slice p X.length ca, .slice q Y.length cb] w (RetSa w X Y) := by
  obtain ⟨n, hN⟩ : ∃ n, X.length = n := ⟨_, rfl⟩
  obtain ⟨m, hM⟩ : ∃ m, Y.length = m := ⟨_, rfl⟩
  have HN := Lib.hid (And.intro hN hM)
  have HR := Lib.hid (And.intro hp hq)
  have HE := Lib.hid (And.intro hX hY)
  have hnb : (n : Int) ≤ 2000 := by omega
  have hmb : (m : Int) ≤ 2000 := by omega
  have mx : Try.prog.follows .mixedOrders = true := mixedOn
  have HF := Lib.hid (show ∀ B : Bool, (B = true ↔ semL X = semL Y) → ∀ w', Below w.heap.size w w' → RetSa w X Y (.returned (.bool B)) w' from fun B h w' hb => ⟨B, rfl, h, hb⟩)
  rw [hN, hM]
  clear hN hM hp hq hX hY hX1 hY1
  go_enter Try.func12, Try.ntmps12
  by_cases hnm : n = m
  case neg =>
    have hz : ¬ ((n : Int) = (m : Int)) := by omega
    have HQ := Lib.hid (HF.out false ⟨fun h => by (cases h), fun h => absurd (sem_length h) (by rw [HN.out.1, HN.out.2]; exact hnm)⟩ w (Below.refl _ _))
    clear hnm
    go_wp2_with fail
    go_ret
    exact HQ.out
  subst hnm
  go_wp2_with fail
  go_loopw [5] (fun i wr => ∃ k : Nat, i = .int .i64 k ∧ k ≤ n ∧ Hid ((semL X).take k = (semL Y).take k) ∧ Hid (Below w.heap.size w wr)) (fun i _ => n - (RowKit.intOf i).toNat)
  case atStart => exact ⟨0, rfl, Nat.zero_le _, Lib.hid (by simp), Lib.hid (Below.refl _ _)⟩
  case round =>
    obtain ⟨k, rfl, hkn, HT, HB⟩ := hrel
    rcases Nat.lt_or_ge k n with hk | hk
    · have hkz : (k : Int) < (n : Int) := by omega
      have hkx : k < X.length := by rw [HN.out.1]; exact hk
      have hky : k < Y.length := by rw [HN.out.2]; exact hk
      have hpos : (0 : Int) ≤ (k : Int) := by omega
      obtain ⟨e, he⟩ : ∃ e, X.getD k default = e := ⟨_, rfl⟩
      obtain ⟨f, hf⟩ : ∃ f, Y.getD k default = f := ⟨_, rfl⟩
      have hst := sem_step hkx hky HT.out
      rw [he, hf] at hst
      have hine := (HE.out.1 e (by rw [← he]; simp [List.getD, hkx])).below HB.out
      have hinf := (HE.out.2 f (by rw [← hf]; simp [List.getD, hky])).below HB.out
      obtain ⟨pb, po, rfl, hpb, hce⟩ := ent_cells HR.out.1 HB.out hkx
      obtain ⟨qb, qo, rfl, hqb, hcf⟩ := ent_cells HR.out.2 HB.out hky
      rw [he] at hce
      rw [hf] at hcf
      have hce' : ∀ P : BelowOf wr, ∀ i, i < 9 → P.w'.cell? ⟨pb, po + k * 9 + i, none⟩ = e.list[i]? := fun P i hi => by
        rw [P.h.cell (p := ⟨pb, po + k * 9 + i, none⟩) (by have := HB.out.size; show pb < _; omega)]; exact hce i hi
      have hcf' : ∀ P : BelowOf wr, ∀ i, i < 9 → P.w'.cell? ⟨qb, qo + k * 9 + i, none⟩ = f.list[i]? := fun P i hi => by
        rw [P.h.cell (p := ⟨qb, qo + k * 9 + i, none⟩) (by have := HB.out.size; show qb < _; omega)]; exact hcf i hi
      have HRF := Lib.hid (show (semL X).take (k + 1) ≠ (semL Y).take (k + 1) → ¬ semL X = semL Y from fun h e => h (by rw [e]))
      obtain ⟨es, er, ep, ek⟩ := e
      obtain ⟨fs, fr, fp, fk⟩ := f
      have z0 := fun P : BelowOf wr => hce' P 0 (by decide)
      have z1 := fun P : BelowOf wr => hce' P 1 (by decide)
      have z2 := fun P : BelowOf wr => hce' P 2 (by decide)
      have z3 := fun P : BelowOf wr => hce' P 3 (by decide)
      have z4 := fun P : BelowOf wr => hce' P 4 (by decide)
      have z5 := fun P : BelowOf wr => hce' P 5 (by decide)
      have z6 := fun P : BelowOf wr => hce' P 6 (by decide)
      have z7 := fun P : BelowOf wr => hce' P 7 (by decide)
      have z8 := fun P : BelowOf wr => hce' P 8 (by decide)
      have y0 := fun P : BelowOf wr => hcf' P 0 (by decide)
      have y1 := fun P : BelowOf wr => hcf' P 1 (by decide)
      have y2 := fun P : BelowOf wr => hcf' P 2 (by decide)
      have y3 := fun P : BelowOf wr => hcf' P 3 (by decide)
      have y4 := fun P : BelowOf wr => hcf' P 4 (by decide)
      have y5 := fun P : BelowOf wr => hcf' P 5 (by decide)
      have y6 := fun P : BelowOf wr => hcf' P 6 (by decide)
      have y7 := fun P : BelowOf wr => hcf' P 7 (by decide)
      have y8 := fun P : BelowOf wr => hcf' P 8 (by decide)
      simp only [Ent.list, Nat.add_zero] at z0 z1 z2 z3 z4 z5 z6 z7 z8 y0 y1 y2 y3 y4 y5 y6 y7 y8
      obtain ⟨B, hBB⟩ : ∃ B : Bool, (B = true ↔ er = fr) := by
        by_cases h : er = fr
        · exact ⟨true, by simp [h]⟩
        · exact ⟨false, by simp [h]⟩
      have CS := Lib.hid (fun P : BelowOf wr => Calls.below_of P (same_reply er fr ep fp ek fk P.w' B hBB (hine.rs.below P.h) (hinf.rs.below P.h) hine.few hinf.few))
      have HST := Lib.hid (show (semL X).take (k + 1) = (semL Y).take (k + 1) ↔ es = fs ∧ B = true from hst.trans ⟨fun h => by
        injection h with h1 h2
        exact ⟨h1, hBB.2 h2⟩, fun h => by rw [Ent.sem, Ent.sem]; rw [h.1, hBB.1 h.2]⟩)
      clear hce hcf hce' hcf' hst hine hinf hBB he hf
      unfold repV at CS
      by_cases hs : es = fs
      · subst hs
        go_upto_region 6 with fail
        refine wp_region_quiet_below (by assumption) (by kernel_rfl) ?_
        repeat (go_big_quiet_step (first | (go_at_call 22; with_reducible exact CS.out _)))
        refine wpQuiet_nil ?_
        intro _ hw'
        obtain ⟨⟨wq, hbq⟩, hw''⟩ := hw'
        subst hw''
        have HBq := Lib.hid (HB.out.trans (hbq.mono HB.out.size))
        clear hbq z0 z1 z2 z3 z4 z5 z6 z7 z8 y0 y1 y2 y3 y4 y5 y6 y7 y8
        cases B with
        | true =>
          have HT2 := Lib.hid (HST.out.2 ⟨rfl, rfl⟩)
          go_wp2_with fail
          exact ⟨⟨k + 1, by go_num, hk, HT2, HBq⟩, by simp [RowKit.intOf]; omega⟩
        | false =>
          have HQ := Lib.hid (HF.out false ⟨fun h => by (cases h), fun h => absurd h (HRF.out fun e => by have := (HST.out.1 e).2; cases this)⟩ _ HBq.out)
          go_wp2_with fail
          go_ret
          exact HQ.out
      · have hs1 : (es != fs) = true := by simp [hs]
        go_upto_region 6 with fail
        refine wp_region_quiet_below (by assumption) (by kernel_rfl) ?_
        repeat (go_big_quiet_step (fail))
        refine wpQuiet_nil ?_
        intro _ hw'
        obtain ⟨⟨wq, hbq⟩, hw''⟩ := hw'
        subst hw''
        have HBq := Lib.hid (HB.out.trans (hbq.mono HB.out.size))
        have HQ := Lib.hid (HF.out false ⟨fun h => by (cases h), fun h => absurd h (HRF.out fun e => hs (HST.out.1 e).1)⟩ _ HBq.out)
        clear hbq z0 z1 z2 z3 z4 z5 z6 z7 z8 y0 y1 y2 y3 y4 y5 y6 y7 y8
        go_wp2_with fail
        go_ret
        exact HQ.out
    · have hkz : ¬ (k : Int) < (n : Int) := by omega
      have hke : k = n := by omega
      have HQ := Lib.hid (HF.out true ⟨fun _ => by
        have := HT.out
        rw [List.take_of_length_le (by rw [semL, List.length_map, HN.out.1]; omega), List.take_of_length_le (by rw [semL, List.length_map, HN.out.2]; omega)] at this
        exact this, fun _ => rfl⟩ _ HB.out)
      clear hke HT HB
      go_wp2_with fail
      go_ret
      exact HQ.out
end Go.Proofs.Ytjlkfoaccllflaa
