/-
  Several texts in one: OnConv, OnSame, PcAwake.
-/
import Derived.Test.YtbhojddakmgdmaaMg16
import Derived.Deep.RegionLaw
import Derived.LoopTactic
import Derived.Deep.CutRange
import Derived.Test.YtbhojddakmgdmaaMg25
import Derived.Test.YtbhojddakmgdmaaMg10
import Derived.Test.YtbhojddakmgdmaaMg08
namespace Go.Proofs.Ytbhojddakmgdmaa
open Go.RowKit Go.Gz

structure CvI (w : World) (t : TypeId) (X : List Ent) (k : Nat) (v : Value) (wr : World) : Prop where
  own : OwnE wr w.heap.size t v (X.take k)
  bl : Below w.heap.size w wr
/-- what is answered: the same entries. -/
def RetCv (w : World) (t : TypeId) (X : List Ent) (e : Ending) (w' : World) : Prop := ∃ v, e = .returned v ∧ OwnE w' w.heap.size t v X ∧ Below w.heap.size w w'

set_option maxHeartbeats 4000000 in
set_option maxRecDepth 100000 in
theorem back_any (w : World) (X : List Ent) (p : Option Addr) (ca : Nat) (hp : RowE w p X) (hX : X.length ≤ 2000) :
    Calls Try.prog 26 #[.slice p X.length ca] w (RetCv w 64 X) := by
  obtain ⟨n, hN⟩ : ∃ n, X.length = n := ⟨_, rfl⟩
  have HN := Lib.hid hN
  have HR := Lib.hid hp
  have hnb : (n : Int) ≤ 2000 := by omega
  have HF := Lib.hid (show ∀ v w', CvI w 64 X n v w' → RetCv w 64 X (.returned v) w' from fun v w' h => ⟨v, rfl, by
    have := h.own
    rwa [List.take_of_length_le (by omega)] at this, h.bl⟩)
  rw [hN]
  clear hN hp hX
  go_enter Try.func26, Try.ntmps26
  go_wp2_with fail
  go_loopw [3, 4] (fun v i wr => ∃ k : Nat, i = .int .i64 k ∧ k ≤ n ∧ Hid (CvI w 64 X k v wr)) (fun _ i _ => n - (RowKit.intOf i).toNat)
  case atStart => exact ⟨0, rfl, Nat.zero_le _, Lib.hid ⟨OwnE.nil _ _ _, Below.refl _ _⟩⟩
  case round =>
    obtain ⟨k, rfl, hkn, HI⟩ := hrel
    rcases Nat.lt_or_ge k n with hk | hk
    · have hkz : (k : Int) < (n : Int) := by omega
      have hklt : k < X.length := by rw [HN.out]; exact hk
      obtain ⟨e, he⟩ : ∃ e, X.getD k default = e := ⟨_, rfl⟩
      obtain ⟨pb, po, rfl, hpb, hcell⟩ := ent_cells HR.out HI.out.bl hklt
      rw [he] at hcell
      have HTK := Lib.hid (show X.take (k + 1) = X.take k ++ [e] by
        rw [List.take_succ_eq_append_getElem hklt, ← he]
        simp [List.getD, hklt])
      have HLK := Lib.hid (show (X.take k).length = k by rw [List.length_take]; omega)
      obtain ⟨E, hE⟩ : ∃ E, e = E := ⟨_, rfl⟩
      rw [hE] at HTK
      obtain ⟨es, er, ep, ek⟩ := e
      have z0 := hcell 0 (by decide)
      have z1 := hcell 1 (by decide)
      have z2 := hcell 2 (by decide)
      have z3 := hcell 3 (by decide)
      have z4 := hcell 4 (by decide)
      have z5 := hcell 5 (by decide)
      have z6 := hcell 6 (by decide)
      have z7 := hcell 7 (by decide)
      have z8 := hcell 8 (by decide)
      simp only [Ent.list, Nat.add_zero] at z0 z1 z2 z3 z4 z5 z6 z7 z8
      have HON := Lib.hid (show ∀ w3 : World, RowE (w3.alloc (.cells #[.int .i64 es, .int .i64 er.c, .int .i64 er.s, .int .i64 er.e, .bool er.fd, .string (strB er.v), .slice ep er.ls.length ek, .string (strB er.nx), .bool er.mr] 64)) (some ⟨w3.heap.size, 0, none⟩) [E] from fun w3 => hE ▸ one_ent (new_block _ _ _))
      clear hcell he hE
      obtain ⟨yc, yrs, ye, yf, yv, yls, yn, ym⟩ := er
      simp only at z0 z1 z2 z3 z4 z5 z6 z7 z8 HON
      generalize strB yv = sv at z5 HON
      generalize strB yn = sx at z7 HON
      generalize yls.length = m at z6 HON
      have hpos : (0 : Int) ≤ (k : Int) := by omega
      go_upto_region 5 with fail
      go_region_law (refine step_app_ents ent_ref rfl _ _ rfl (by simp [Act.eval]) (HI.out.own.drewN 1 |>.alloc _) (some ⟨wr.heap.size, 0, none⟩) 1 [E] (by simp [Act.eval]) (HON.out wr.drew) (fun h => by cases h) (by have := HLK.out; simp only [List.length_cons, List.length_nil]; omega) (by have := HI.out.bl.size; simp; omega) ?_; intro v4 w4 hown4 hgrow4 hat4)
      all_goals
        have HQ := Lib.hid (show CvI w 64 X (k + 1) v4 w4 from ⟨by rw [HTK.out]; exact hown4, ((HI.out.bl.drew).alloc (by have := HI.out.bl.size; simpa using this) _).grown hgrow4 (by have := HI.out.bl.size; simp; omega) (fun g hg => HI.out.own.lt g hg)⟩)
        clear z0 z1 z2 z3 z4 z5 z6 z7 z8 hown4 hgrow4 hat4
        go_wp2_with fail
        exact ⟨⟨k + 1, by go_num, hk, HQ⟩, by simp [RowKit.intOf]; omega⟩
    · have hkz : ¬ (k : Int) < (n : Int) := by omega
      have hke : k = n := by omega
      have HQ := Lib.hid (HF.out _ _ (hke ▸ HI.out))
      clear hke HI
      go_wp2_with fail
      go_ret
      exact HQ.out

set_option maxHeartbeats 4000000 in
set_option maxRecDepth 100000 in
theorem made_any (w : World) (X : List Ent) (p : Option Addr) (ca : Nat) (hp : RowE w p X) (hX : X.length ≤ 2000) :
    Calls Try.prog 22 #[.slice p X.length ca] w (RetCv w 93 X) := by
  obtain ⟨n, hN⟩ : ∃ n, X.length = n := ⟨_, rfl⟩
  have HN := Lib.hid hN
  have HR := Lib.hid hp
  have hnb : (n : Int) ≤ 2000 := by omega
  have HF := Lib.hid (show ∀ v w', CvI w 93 X n v w' → RetCv w 93 X (.returned v) w' from fun v w' h => ⟨v, rfl, by
    have := h.own
    rwa [List.take_of_length_le (by omega)] at this, h.bl⟩)
  rw [hN]
  clear hN hp hX
  go_enter Try.func22, Try.ntmps22
  go_wp2_with fail
  go_loopw [3, 4] (fun v i wr => ∃ k : Nat, i = .int .i64 k ∧ k ≤ n ∧ Hid (CvI w 93 X k v wr)) (fun _ i _ => n - (RowKit.intOf i).toNat)
  case atStart => exact ⟨0, rfl, Nat.zero_le _, Lib.hid ⟨OwnE.nil _ _ _, Below.refl _ _⟩⟩
  case round =>
    obtain ⟨k, rfl, hkn, HI⟩ := hrel
    rcases Nat.lt_or_ge k n with hk | hk
    · have hkz : (k : Int) < (n : Int) := by omega
      have hklt : k < X.length := by rw [HN.out]; exact hk
      obtain ⟨e, he⟩ : ∃ e, X.getD k default = e := ⟨_, rfl⟩
      obtain ⟨pb, po, rfl, hpb, hcell⟩ := ent_cells HR.out HI.out.bl hklt
      rw [he] at hcell
      have HTK := Lib.hid (show X.take (k + 1) = X.take k ++ [e] by
        rw [List.take_succ_eq_append_getElem hklt, ← he]
        simp [List.getD, hklt])
      have HLK := Lib.hid (show (X.take k).length = k by rw [List.length_take]; omega)
      obtain ⟨E, hE⟩ : ∃ E, e = E := ⟨_, rfl⟩
      rw [hE] at HTK
      obtain ⟨es, er, ep, ek⟩ := e
      have z0 := hcell 0 (by decide)
      have z1 := hcell 1 (by decide)
      have z2 := hcell 2 (by decide)
      have z3 := hcell 3 (by decide)
      have z4 := hcell 4 (by decide)
      have z5 := hcell 5 (by decide)
      have z6 := hcell 6 (by decide)
      have z7 := hcell 7 (by decide)
      have z8 := hcell 8 (by decide)
      simp only [Ent.list, Nat.add_zero] at z0 z1 z2 z3 z4 z5 z6 z7 z8
      have HON := Lib.hid (show ∀ w3 : World, RowE (w3.alloc (.cells #[.int .i64 es, .int .i64 er.c, .int .i64 er.s, .int .i64 er.e, .bool er.fd, .string (strB er.v), .slice ep er.ls.length ek, .string (strB er.nx), .bool er.mr] 93)) (some ⟨w3.heap.size, 0, none⟩) [E] from fun w3 => hE ▸ one_ent (new_block _ _ _))
      clear hcell he hE
      obtain ⟨yc, yrs, ye, yf, yv, yls, yn, ym⟩ := er
      simp only at z0 z1 z2 z3 z4 z5 z6 z7 z8 HON
      generalize strB yv = sv at z5 HON
      generalize strB yn = sx at z7 HON
      generalize yls.length = m at z6 HON
      have hpos : (0 : Int) ≤ (k : Int) := by omega
      go_upto_region 5 with fail
      go_region_law (refine step_app_ents ent_once rfl _ _ rfl (by simp [Act.eval]) (HI.out.own.drewN 1 |>.alloc _) (some ⟨wr.heap.size, 0, none⟩) 1 [E] (by simp [Act.eval]) (HON.out wr.drew) (fun h => by cases h) (by have := HLK.out; simp only [List.length_cons, List.length_nil]; omega) (by have := HI.out.bl.size; simp; omega) ?_; intro v4 w4 hown4 hgrow4 hat4)
      all_goals
        have HQ := Lib.hid (show CvI w 93 X (k + 1) v4 w4 from ⟨by rw [HTK.out]; exact hown4, ((HI.out.bl.drew).alloc (by have := HI.out.bl.size; simpa using this) _).grown hgrow4 (by have := HI.out.bl.size; simp; omega) (fun g hg => HI.out.own.lt g hg)⟩)
        clear z0 z1 z2 z3 z4 z5 z6 z7 z8 hown4 hgrow4 hat4
        go_wp2_with fail
        exact ⟨⟨k + 1, by go_num, hk, HQ⟩, by simp [RowKit.intOf]; omega⟩
    · have hkz : ¬ (k : Int) < (n : Int) := by omega
      have hke : k = n := by omega
      have HQ := Lib.hid (HF.out _ _ (hke ▸ HI.out))
      clear hke HI
      go_wp2_with fail
      go_ret
      exact HQ.out
end Go.Proofs.Ytbhojddakmgdmaa
namespace Go.Proofs.Ytbhojddakmgdmaa
open Go.RowKit Go.Gz

theorem sem_step {X Y : List Ent} {k : Nat} (hx : k < X.length) (hy : k < Y.length) (h : (semL X).take k = (semL Y).take k) : (semL X).take (k + 1) = (semL Y).take (k + 1) ↔ (X.getD k default).sem = (Y.getD k default).sem := by
  have hx' : k < (semL X).length := by simpa [semL] using hx
  have hy' : k < (semL Y).length := by simpa [semL] using hy
  rw [List.take_succ_eq_append_getElem hx', List.take_succ_eq_append_getElem hy', h]
  have e1 : (semL X)[k] = (X.getD k default).sem := by simp [semL, List.getD, hx]
  have e2 : (semL Y)[k] = (Y.getD k default).sem := by simp [semL, List.getD, hy]
  rw [e1, e2]
  simp
theorem same_reply (r r' : RepL) (p p' : Option Addr) (k k' : Nat) (w : World) (B : Bool) (hB : B = true ↔ r = r') (hp : Recs w p r.ls) (hp' : Recs w p' r'.ls) (hl : r.ls.length ≤ 300) (hl' : r'.ls.length ≤ 300) :
    Calls Try.prog 24 #[repV r p k, repV r' p' k'] w fun e w' => e = .returned (.bool B) ∧ Below w.heap.size w w' := by
  refine (same_any r r' p p' k k' w hp hp' (by omega) (by omega)).mono ?_
  rintro e w' ⟨b, rfl, hb, hbl⟩
  have : b = B := by
    cases b <;> cases B <;> simp_all
  rw [this]
  exact ⟨rfl, hbl⟩
def RetSa (w : World) (X Y : List Ent) (e : Ending) (w' : World) : Prop := ∃ B : Bool, e = .returned (.bool B) ∧ (B = true ↔ semL X = semL Y) ∧ Below w.heap.size w w'

set_option maxHeartbeats 8000000 in
set_option maxRecDepth 100000 in
theorem sameE_any (w : World) (X Y : List Ent) (p q : Option Addr) (ca cb : Nat) (hp : RowE w p X) (hq : RowE w q Y) (hX : EntsIn w X) (hY : EntsIn w Y) (hX1 : X.length ≤ 2000) (hY1 : Y.length ≤ 2000) :
    Calls Try.prog 25 #[.slice p X.length ca, .slice q Y.length cb] w (RetSa w X Y) := by
  obtain ⟨n, hN⟩ : ∃ n, X.length = n := ⟨_, rfl⟩
  obtain ⟨m, hM⟩ : ∃ m, Y.length = m := ⟨_, rfl⟩
  have HN := Lib.hid (And.intro hN hM)
  have HR := Lib.hid (And.intro hp hq)
  have HE := Lib.hid (And.intro hX hY)
  have hnb : (n : Int) ≤ 2000 := by omega
  have hmb : (m : Int) ≤ 2000 := by omega
  have mx : Try.prog.follows .mixedOrders = true := mixedOn
  have HF := Lib.hid (show ∀ B : Bool, (B = true ↔ semL X = semL Y) → ∀ w', Below w.heap.size w w' → RetSa w X Y (.returned (.bool B)) w' from fun B h w' hb => ⟨B, rfl, h, hb⟩)
  rw [hN, hM]
  clear hN hM hp hq hX hY hX1 hY1
  go_enter Try.func25, Try.ntmps25
  by_cases hnm : n = m
  case neg =>
    have hz : ¬ ((n : Int) = (m : Int)) := by omega
    have HQ := Lib.hid (HF.out false ⟨fun h => by (cases h), fun h => absurd (sem_length h) (by rw [HN.out.1, HN.out.2]; exact hnm)⟩ w (Below.refl _ _))
    clear hnm
    go_wp2_with fail
    go_ret
    exact HQ.out
  subst hnm
  go_wp2_with fail
  go_loopw [5] (fun i wr => ∃ k : Nat, i = .int .i64 k ∧ k ≤ n ∧ Hid ((semL X).take k = (semL Y).take k) ∧ Hid (Below w.heap.size w wr)) (fun i _ => n - (RowKit.intOf i).toNat)
  case atStart => exact ⟨0, rfl, Nat.zero_le _, Lib.hid (by simp), Lib.hid (Below.refl _ _)⟩
  case round =>
    obtain ⟨k, rfl, hkn, HT, HB⟩ := hrel
    rcases Nat.lt_or_ge k n with hk | hk
    · have hkz : (k : Int) < (n : Int) := by omega
      have hkx : k < X.length := by rw [HN.out.1]; exact hk
      have hky : k < Y.length := by rw [HN.out.2]; exact hk
      have hpos : (0 : Int) ≤ (k : Int) := by omega
      obtain ⟨e, he⟩ : ∃ e, X.getD k default = e := ⟨_, rfl⟩
      obtain ⟨f, hf⟩ : ∃ f, Y.getD k default = f := ⟨_, rfl⟩
      have hst := sem_step hkx hky HT.out
      rw [he, hf] at hst
      have hine := (HE.out.1 e (by rw [← he]; simp [List.getD, hkx])).below HB.out
      have hinf := (HE.out.2 f (by rw [← hf]; simp [List.getD, hky])).below HB.out
      obtain ⟨pb, po, rfl, hpb, hce⟩ := ent_cells HR.out.1 HB.out hkx
      obtain ⟨qb, qo, rfl, hqb, hcf⟩ := ent_cells HR.out.2 HB.out hky
      rw [he] at hce
      rw [hf] at hcf
      have hce' : ∀ P : BelowOf wr, ∀ i, i < 9 → P.w'.cell? ⟨pb, po + k * 9 + i, none⟩ = e.list[i]? := fun P i hi => by
        rw [P.h.cell (p := ⟨pb, po + k * 9 + i, none⟩) (by have := HB.out.size; show pb < _; omega)]; exact hce i hi
      have hcf' : ∀ P : BelowOf wr, ∀ i, i < 9 → P.w'.cell? ⟨qb, qo + k * 9 + i, none⟩ = f.list[i]? := fun P i hi => by
        rw [P.h.cell (p := ⟨qb, qo + k * 9 + i, none⟩) (by have := HB.out.size; show qb < _; omega)]; exact hcf i hi
      have HRF := Lib.hid (show (semL X).take (k + 1) ≠ (semL Y).take (k + 1) → ¬ semL X = semL Y from fun h e => h (by rw [e]))
      obtain ⟨es, er, ep, ek⟩ := e
      obtain ⟨fs, fr, fp, fk⟩ := f
      have z0 := fun P : BelowOf wr => hce' P 0 (by decide)
      have z1 := fun P : BelowOf wr => hce' P 1 (by decide)
      have z2 := fun P : BelowOf wr => hce' P 2 (by decide)
      have z3 := fun P : BelowOf wr => hce' P 3 (by decide)
      have z4 := fun P : BelowOf wr => hce' P 4 (by decide)
      have z5 := fun P : BelowOf wr => hce' P 5 (by decide)
      have z6 := fun P : BelowOf wr => hce' P 6 (by decide)
      have z7 := fun P : BelowOf wr => hce' P 7 (by decide)
      have z8 := fun P : BelowOf wr => hce' P 8 (by decide)
      have y0 := fun P : BelowOf wr => hcf' P 0 (by decide)
      have y1 := fun P : BelowOf wr => hcf' P 1 (by decide)
      have y2 := fun P : BelowOf wr => hcf' P 2 (by decide)
      have y3 := fun P : BelowOf wr => hcf' P 3 (by decide)
      have y4 := fun P : BelowOf wr => hcf' P 4 (by decide)
      have y5 := fun P : BelowOf wr => hcf' P 5 (by decide)
      have y6 := fun P : BelowOf wr => hcf' P 6 (by decide)
      have y7 := fun P : BelowOf wr => hcf' P 7 (by decide)
      have y8 := fun P : BelowOf wr => hcf' P 8 (by decide)
      simp only [Ent.list, Nat.add_zero] at z0 z1 z2 z3 z4 z5 z6 z7 z8 y0 y1 y2 y3 y4 y5 y6 y7 y8
      obtain ⟨B, hBB⟩ : ∃ B : Bool, (B = true ↔ er = fr) := by
        by_cases h : er = fr
        · exact ⟨true, by simp [h]⟩
        · exact ⟨false, by simp [h]⟩
      have CS := Lib.hid (fun P : BelowOf wr => Calls.below_of P (same_reply er fr ep fp ek fk P.w' B hBB (hine.rs.below P.h) (hinf.rs.below P.h) hine.few hinf.few))
      have HST := Lib.hid (show (semL X).take (k + 1) = (semL Y).take (k + 1) ↔ es = fs ∧ B = true from hst.trans ⟨fun h => by
        injection h with h1 h2
        exact ⟨h1, hBB.2 h2⟩, fun h => by rw [Ent.sem, Ent.sem]; rw [h.1, hBB.1 h.2]⟩)
      clear hce hcf hce' hcf' hst hine hinf hBB he hf
      unfold repV at CS
      by_cases hs : es = fs
      · subst hs
        go_upto_region 6 with fail
        refine wp_region_quiet_below (by assumption) (by kernel_rfl) ?_
        repeat (go_big_quiet_step (first | (go_at_call 24; with_reducible exact CS.out _)))
        refine wpQuiet_nil ?_
        intro _ hw'
        obtain ⟨⟨wq, hbq⟩, hw''⟩ := hw'
        subst hw''
        have HBq := Lib.hid (HB.out.trans (hbq.mono HB.out.size))
        clear hbq z0 z1 z2 z3 z4 z5 z6 z7 z8 y0 y1 y2 y3 y4 y5 y6 y7 y8
        cases B with
        | true =>
          have HT2 := Lib.hid (HST.out.2 ⟨rfl, rfl⟩)
          go_wp2_with fail
          exact ⟨⟨k + 1, by go_num, hk, HT2, HBq⟩, by simp [RowKit.intOf]; omega⟩
        | false =>
          have HQ := Lib.hid (HF.out false ⟨fun h => by (cases h), fun h => absurd h (HRF.out fun e => by have := (HST.out.1 e).2; cases this)⟩ _ HBq.out)
          go_wp2_with fail
          go_ret
          exact HQ.out
      · have hs1 : (es != fs) = true := by simp [hs]
        go_upto_region 6 with fail
        refine wp_region_quiet_below (by assumption) (by kernel_rfl) ?_
        repeat (go_big_quiet_step (fail))
        refine wpQuiet_nil ?_
        intro _ hw'
        obtain ⟨⟨wq, hbq⟩, hw''⟩ := hw'
        subst hw''
        have HBq := Lib.hid (HB.out.trans (hbq.mono HB.out.size))
        have HQ := Lib.hid (HF.out false ⟨fun h => by (cases h), fun h => absurd h (HRF.out fun e => hs (HST.out.1 e).1)⟩ _ HBq.out)
        clear hbq z0 z1 z2 z3 z4 z5 z6 z7 z8 y0 y1 y2 y3 y4 y5 y6 y7 y8
        go_wp2_with fail
        go_ret
        exact HQ.out
    · have hkz : ¬ (k : Int) < (n : Int) := by omega
      have hke : k = n := by omega
      have HQ := Lib.hid (HF.out true ⟨fun _ => by
        have := HT.out
        rw [List.take_of_length_le (by rw [semL, List.length_map, HN.out.1]; omega), List.take_of_length_le (by rw [semL, List.length_map, HN.out.2]; omega)] at this
        exact this, fun _ => rfl⟩ _ HB.out)
      clear hke HT HB
      go_wp2_with fail
      go_ret
      exact HQ.out
end Go.Proofs.Ytbhojddakmgdmaa
namespace Go.Proofs.Ytbhojddakmgdmaa
open Go.RowKit

/-- a truth is answered, and where it is yes there are few records. -/
def RetSm (n : Nat) (w : World) (e : Ending) (w' : World) : Prop := ∃ b, e = .returned (.bool b) ∧ (b = true → n ≤ 300) ∧ Below w.heap.size w w'
set_option maxHeartbeats 2000000 in
theorem smallReply_any (r : RepL) (p : Option Addr) (cap : Nat) (w : World) (hl : r.ls.length ≤ 9223372036854775807) (hp : Recs w p r.ls) :
    Calls Try.prog 16 #[repV r p cap] w (RetSm r.ls.length w) := by
  obtain ⟨c, s, er, fd, v, ls, nx, mr⟩ := r
  unfold repV
  simp only at hl hp ⊢
  have HP := Lib.hid hp
  obtain ⟨n, hN⟩ : ∃ n, ls.length = n := ⟨_, rfl⟩
  rw [hN] at hl ⊢
  have HN := Lib.hid hN
  have hnz : (n : Int) ≤ 9223372036854775807 := by omega
  have HB := Lib.hid (show Below w.heap.size w (w.alloc (.cells #[.int .i64 c, .int .i64 s, .int .i64 er, .bool fd, .string (strB v), .slice p n cap, .string (strB nx), .bool mr] 28)) from (Below.refl _ _).alloc (Nat.le_refl _) _)
  have HC := Lib.hid (fun i => box_cells (Below.refl (w.heap.size + 1) (w.alloc (.cells #[.int .i64 c, .int .i64 s, .int .i64 er, .bool fd, .string (strB v), .slice p n cap, .string (strB nx), .bool mr] 28))) i)
  generalize strB v = v at HB HC ⊢
  generalize strB nx = nx at HB HC ⊢
  clear hp hN hl
  go_enter Try.func16, Try.ntmps16
  go_wp2_with fail
  obtain ⟨W, hW⟩ : ∃ W, w.alloc (.cells #[.int .i64 c, .int .i64 s, .int .i64 er, .bool fd, .string v, .slice p n cap, .string nx, .bool mr] 28) = W := ⟨_, rfl⟩
  rw [hW] at HB HC ⊢
  clear hW
  go_loopw [3, 4] (fun x i wr => ∃ (k : Nat) (z : Int), k ≤ n ∧ i = .int .i64 k ∧ x = .int .i64 z ∧ Hid (∃ m, wr = W.drewN m)) (fun _ i _ => n - (RowKit.intOf i).toNat)
  case atStart => exact ⟨0, _, Nat.zero_le _, rfl, rfl, Lib.hid ⟨0, rfl⟩⟩
  case round =>
    obtain ⟨k, z, hk, rfl, rfl, HM⟩ := hrel
    obtain ⟨m, rfl⟩ := HM.out
    have c5 := HC.out 5
    by_cases hlt : k < n
    · have hltz : (k : Int) < (n : Int) := by omega
      obtain ⟨b, o, hpe, hbl, r1, r2⟩ := rec_cell HP.out HB.out (show k < ls.length by rw [HN.out]; exact hlt)
      subst hpe
      generalize strB (ls.getD k ([], [])).1 = s1 at r1
      generalize strB (ls.getD k ([], [])).2 = s2 at r2
      go_wp2_with fail
      go_quiet (fail)
      go_wp2_with fail
      go_roundw
      case rel => exact ⟨k + 1, _, by omega, by go_num, rfl, Lib.hid ⟨_, rfl⟩⟩
      case measure => simp [RowKit.intOf]; omega
    · obtain rfl : k = n := by omega
      have hltz : ¬ (k : Int) < (k : Int) := by omega
      have HB2 := Lib.hid (below_drewN HB.out m)
      by_cases h3 : k ≤ 300
      · have h3z : decide ((k : Int) ≤ 300) = true := by simp; omega
        go_wp2_with fail
        go_ret
        exact ⟨_, rfl, fun _ => h3, HB2.out⟩
      · have h3z : decide ((k : Int) ≤ 300) = false := by simp; omega
        go_wp2_with fail
        go_ret
        exact ⟨_, rfl, (fun h => by cases h), HB2.out⟩
end Go.Proofs.Ytbhojddakmgdmaa
