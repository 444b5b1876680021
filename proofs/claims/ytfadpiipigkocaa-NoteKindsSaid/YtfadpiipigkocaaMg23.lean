/-
  Several texts in one: OnSame, PcApart.
-/
import Derived.Test.YtfadpiipigkocaaMg08
import Derived.Test.YtfadpiipigkocaaMg22
import Derived.Test.YtfadpiipigkocaaMg10
import Derived.LoopTactic
import Derived.Test.YtfadpiipigkocaaMg09
namespace Go.Proofs.Ytfadpiipigkocaa
open Go.RowKit Go.Gz

theorem sem_step {X Y : List Ent} {k : Nat} (hx : k < X.length) (hy : k < Y.length) (h : (semL X).take k = (semL Y).take k) : (semL X).take (k + 1) = (semL Y).take (k + 1) ↔ (X.getD k default).sem = (Y.getD k default).sem := by
  have hx' : k < (semL X).length := by simpa [semL] using hx
  have hy' : k < (semL Y).length := by simpa [semL] using hy
  rw [List.take_succ_eq_append_getElem hx', List.take_succ_eq_append_getElem hy', h]
  have e1 : (semL X)[k] = (X.getD k default).sem := by simp [semL, List.getD, hx]
  have e2 : (semL Y)[k] = (Y.getD k default).sem := by simp [semL, List.getD, hy]
  rw [e1, e2]
  simp
theorem same_reply (r r' : RepL) (p p' : Option Addr) (k k' : Nat) (w : World) (B : Bool) (hB : B = true ↔ r = r') (hp : Recs w p r.ls) (hp' : Recs w p' r'.ls) (hl : r.ls.length ≤ 300) (hl' : r'.ls.length ≤ 300) :
    Calls Try.prog 16 #[repV r p k, repV r' p' k'] w fun e w' => e = .returned (.bool B) ∧ Below w.heap.size w w' := by
  refine (same_any r r' p p' k k' w hp hp' (by omega) (by omega)).mono ?_
  rintro e w' ⟨b, rfl, hb, hbl⟩
  have : b = B := by
    cases b <;> cases B <;> simp_all
  rw [this]
  exact ⟨rfl, hbl⟩
def RetSa (w : World) (X Y : List Ent) (e : Ending) (w' : World) : Prop := ∃ B : Bool, e = .returned (.bool B) ∧ (B = true ↔ semL X = semL Y) ∧ Below w.heap.size w w'

set_option maxHeartbeats 8000000 in
set_option maxRecDepth 100000 in
theorem sameE_any (w : World) (X Y : List Ent) (p q : Option Addr) (ca cb : Nat) (hp : RowE w p X) (hq : RowE w q Y) (hX : EntsIn w X) (hY : EntsIn w Y) (hX1 : X.length ≤ 2000) (hY1 : Y.length ≤ 2000) :
    Calls Try.prog 26 #[.slice p X.length ca, .slice q Y.length cb] w (RetSa w X Y) := by
  obtain ⟨n, hN⟩ : ∃ n, X.length = n := ⟨_, rfl⟩
  obtain ⟨m, hM⟩ : ∃ m, Y.length = m := ⟨_, rfl⟩
  have HN := Lib.hid (And.intro hN hM)
  have HR := Lib.hid (And.intro hp hq)
  have HE := Lib.hid (And.intro hX hY)
  have hnb : (n : Int) ≤ 2000 := by omega
  have hmb : (m : Int) ≤ 2000 := by omega
  have mx : Try.prog.follows .mixedOrders = true := mixedOn
  have HF := Lib.hid (show ∀ B : Bool, (B = true ↔ semL X = semL Y) → ∀ w', Below w.heap.size w w' → RetSa w X Y (.returned (.bool B)) w' from fun B h w' hb => ⟨B, rfl, h, hb⟩)
  rw [hN, hM]
  clear hN hM hp hq hX hY hX1 hY1
  go_enter Try.func26, Try.ntmps26
  by_cases hnm : n = m
  case neg =>
    have hz : ¬ ((n : Int) = (m : Int)) := by omega
    have HQ := Lib.hid (HF.out false ⟨fun h => by (cases h), fun h => absurd (sem_length h) (by rw [HN.out.1, HN.out.2]; exact hnm)⟩ w (Below.refl _ _))
    clear hnm
    go_wp2_with fail
    go_ret
    exact HQ.out
  subst hnm
  go_wp2_with fail
  go_loopw [5] (fun i wr => ∃ k : Nat, i = .int .i64 k ∧ k ≤ n ∧ Hid ((semL X).take k = (semL Y).take k) ∧ Hid (Below w.heap.size w wr)) (fun i _ => n - (RowKit.intOf i).toNat)
  case atStart => exact ⟨0, rfl, Nat.zero_le _, Lib.hid (by simp), Lib.hid (Below.refl _ _)⟩
  case round =>
    obtain ⟨k, rfl, hkn, HT, HB⟩ := hrel
    rcases Nat.lt_or_ge k n with hk | hk
    · have hkz : (k : Int) < (n : Int) := by omega
      have hkx : k < X.length := by rw [HN.out.1]; exact hk
      have hky : k < Y.length := by rw [HN.out.2]; exact hk
      have hpos : (0 : Int) ≤ (k : Int) := by omega
      obtain ⟨e, he⟩ : ∃ e, X.getD k default = e := ⟨_, rfl⟩
      obtain ⟨f, hf⟩ : ∃ f, Y.getD k default = f := ⟨_, rfl⟩
      have hst := sem_step hkx hky HT.out
      rw [he, hf] at hst
      have hine := (HE.out.1 e (by rw [← he]; simp [List.getD, hkx])).below HB.out
      have hinf := (HE.out.2 f (by rw [← hf]; simp [List.getD, hky])).below HB.out
      obtain ⟨pb, po, rfl, hpb, hce⟩ := ent_cells HR.out.1 HB.out hkx
      obtain ⟨qb, qo, rfl, hqb, hcf⟩ := ent_cells HR.out.2 HB.out hky
      rw [he] at hce
      rw [hf] at hcf
      have hce' : ∀ P : BelowOf wr, ∀ i, i < 9 → P.w'.cell? ⟨pb, po + k * 9 + i, none⟩ = e.list[i]? := fun P i hi => by
        rw [P.h.cell (p := ⟨pb, po + k * 9 + i, none⟩) (by have := HB.out.size; show pb < _; omega)]; exact hce i hi
      have hcf' : ∀ P : BelowOf wr, ∀ i, i < 9 → P.w'.cell? ⟨qb, qo + k * 9 + i, none⟩ = f.list[i]? := fun P i hi => by
        rw [P.h.cell (p := ⟨qb, qo + k * 9 + i, none⟩) (by have := HB.out.size; show qb < _; omega)]; exact hcf i hi
      have HRF := Lib.hid (show (semL X).take (k + 1) ≠ (semL Y).take (k + 1) → ¬ semL X = semL Y from fun h e => h (by rw [e]))
      obtain ⟨es, er, ep, ek⟩ := e
      obtain ⟨fs, fr, fp, fk⟩ := f
      have z0 := fun P : BelowOf wr => hce' P 0 (by decide)
      have z1 := fun P : BelowOf wr => hce' P 1 (by decide)
      have z2 := fun P : BelowOf wr => hce' P 2 (by decide)
      have z3 := fun P : BelowOf wr => hce' P 3 (by decide)
      have z4 := fun P : BelowOf wr => hce' P 4 (by decide)
      have z5 := fun P : BelowOf wr => hce' P 5 (by decide)
      have z6 := fun P : BelowOf wr => hce' P 6 (by decide)
      have z7 := fun P : BelowOf wr => hce' P 7 (by decide)
      have z8 := fun P : BelowOf wr => hce' P 8 (by decide)
      have y0 := fun P : BelowOf wr => hcf' P 0 (by decide)
      have y1 := fun P : BelowOf wr => hcf' P 1 (by decide)
      have y2 := fun P : BelowOf wr => hcf' P 2 (by decide)
      have y3 := fun P : BelowOf wr => hcf' P 3 (by decide)
      have y4 := fun P : BelowOf wr => hcf' P 4 (by decide)
      have y5 := fun P : BelowOf wr => hcf' P 5 (by decide)
      have y6 := fun P : BelowOf wr => hcf' P 6 (by decide)
      have y7 := fun P : BelowOf wr => hcf' P 7 (by decide)
      have y8 := fun P : BelowOf wr => hcf' P 8 (by decide)
      simp only [Ent.list, Nat.add_zero] at z0 z1 z2 z3 z4 z5 z6 z7 z8 y0 y1 y2 y3 y4 y5 y6 y7 y8
      obtain ⟨B, hBB⟩ : ∃ B : Bool, (B = true ↔ er = fr) := by
        by_cases h : er = fr
        · exact ⟨true, by simp [h]⟩
        · exact ⟨false, by simp [h]⟩
      have CS := Lib.hid (fun P : BelowOf wr => Calls.below_of P (same_reply er fr ep fp ek fk P.w' B hBB (hine.rs.below P.h) (hinf.rs.below P.h) hine.few hinf.few))
      have HST := Lib.hid (show (semL X).take (k + 1) = (semL Y).take (k + 1) ↔ es = fs ∧ B = true from hst.trans ⟨fun h => by
        injection h with h1 h2
        exact ⟨h1, hBB.2 h2⟩, fun h => by rw [Ent.sem, Ent.sem]; rw [h.1, hBB.1 h.2]⟩)
      clear hce hcf hce' hcf' hst hine hinf hBB he hf
      unfold repV at CS
      by_cases hs : es = fs
      · subst hs
        go_upto_region 6 with fail
        refine wp_region_quiet_below (by assumption) (by kernel_rfl) ?_
        repeat (go_big_quiet_step (first | (go_at_call 16; with_reducible exact CS.out _)))
        refine wpQuiet_nil ?_
        intro _ hw'
        obtain ⟨⟨wq, hbq⟩, hw''⟩ := hw'
        subst hw''
        have HBq := Lib.hid (HB.out.trans (hbq.mono HB.out.size))
        clear hbq z0 z1 z2 z3 z4 z5 z6 z7 z8 y0 y1 y2 y3 y4 y5 y6 y7 y8
        cases B with
        | true =>
          have HT2 := Lib.hid (HST.out.2 ⟨rfl, rfl⟩)
          go_wp2_with fail
          exact ⟨⟨k + 1, by go_num, hk, HT2, HBq⟩, by simp [RowKit.intOf]; omega⟩
        | false =>
          have HQ := Lib.hid (HF.out false ⟨fun h => by (cases h), fun h => absurd h (HRF.out fun e => by have := (HST.out.1 e).2; cases this)⟩ _ HBq.out)
          go_wp2_with fail
          go_ret
          exact HQ.out
      · have hs1 : (es != fs) = true := by simp [hs]
        go_upto_region 6 with fail
        refine wp_region_quiet_below (by assumption) (by kernel_rfl) ?_
        repeat (go_big_quiet_step (fail))
        refine wpQuiet_nil ?_
        intro _ hw'
        obtain ⟨⟨wq, hbq⟩, hw''⟩ := hw'
        subst hw''
        have HBq := Lib.hid (HB.out.trans (hbq.mono HB.out.size))
        have HQ := Lib.hid (HF.out false ⟨fun h => by (cases h), fun h => absurd h (HRF.out fun e => hs (HST.out.1 e).1)⟩ _ HBq.out)
        clear hbq z0 z1 z2 z3 z4 z5 z6 z7 z8 y0 y1 y2 y3 y4 y5 y6 y7 y8
        go_wp2_with fail
        go_ret
        exact HQ.out
    · have hkz : ¬ (k : Int) < (n : Int) := by omega
      have hke : k = n := by omega
      have HQ := Lib.hid (HF.out true ⟨fun _ => by
        have := HT.out
        rw [List.take_of_length_le (by rw [semL, List.length_map, HN.out.1]; omega), List.take_of_length_le (by rw [semL, List.length_map, HN.out.2]; omega)] at this
        exact this, fun _ => rfl⟩ _ HB.out)
      clear hke HT HB
      go_wp2_with fail
      go_ret
      exact HQ.out
end Go.Proofs.Ytfadpiipigkocaa
namespace Go.Proofs.Ytfadpiipigkocaa
open Go.RowKit Go.Gz

theorem mixedPc : Try.prog.follows .mixedOrders = true := by kernel_rfl
theorem eq_ask (n : Nat) (a0 b0 a1 b1 a2 b2 a7 b7 : Int) (a3 b3 a4 b4 a5 b5 a6 b6 : ByteArray) (w : World) :
    (Op.equalIn (n + 2) 23 (.agg #[.int .i64 a0, .int .i64 a1, .int .i64 a2, .string a3, .string a4, .string a5, .string a6, .int .i64 a7]) (.agg #[.int .i64 b0, .int .i64 b1, .int .i64 b2, .string b3, .string b4, .string b5, .string b6, .int .i64 b7])).run Try.prog w = .ok (decide (a0 = b0) && (decide (a1 = b1) && (decide (a2 = b2) && (decide (a3.toList = b3.toList) && (decide (a4.toList = b4.toList) && (decide (a5.toList = b5.toList) && (decide (a6.toList = b6.toList) && (decide (a7 = b7))))))))) w := by
  by_cases h0 : a0 = b0
  · by_cases h1 : a1 = b1
    · by_cases h2 : a2 = b2
      · by_cases h3 : a3.toList = b3.toList
        · by_cases h4 : a4.toList = b4.toList
          · by_cases h5 : a5.toList = b5.toList
            · by_cases h6 : a6.toList = b6.toList
              · by_cases h7 : a7 = b7
                · simp [go_sem, h0, h1, h2, h3, h4, h5, h6, h7]
                · simp [go_sem, h0, h1, h2, h3, h4, h5, h6, h7]
              · simp [go_sem, h0, h1, h2, h3, h4, h5, h6]
            · simp [go_sem, h0, h1, h2, h3, h4, h5]
          · simp [go_sem, h0, h1, h2, h3, h4]
        · simp [go_sem, h0, h1, h2, h3]
      · simp [go_sem, h0, h1, h2]
    · simp [go_sem, h0, h1]
  · simp [go_sem, h0]
theorem box_at {w wr : World} {B g : Nat} {c : Array Value} {t : TypeId} (h : w.heap[g]? = some (.cells c t (0, 0))) (hg : g < B) (hb : Below B w wr) (i : Nat) : wr.cell? ⟨g, i, none⟩ = c[i]? := by
  rw [hb.cell (p := ⟨g, i, none⟩) hg]; exact cell_at h i
theorem three_boxes {w wr : World} {c1 c2 c3 : Array Value} {t1 t2 t3 : TypeId} (hb : Below (w.heap.size + 3) (((w.alloc (.cells c1 t1)).alloc (.cells c2 t2)).alloc (.cells c3 t3)) wr) : (∀ i, wr.cell? ⟨w.heap.size, i, none⟩ = c1[i]?) ∧ (∀ i, wr.cell? ⟨w.heap.size + 1, i, none⟩ = c2[i]?) ∧ (∀ i, wr.cell? ⟨w.heap.size + 2, i, none⟩ = c3[i]?) := by
  have z1 : (w.alloc (.cells c1 t1)).heap.size = w.heap.size + 1 := by simp
  have z2 : ((w.alloc (.cells c1 t1)).alloc (.cells c2 t2)).heap.size = w.heap.size + 2 := by simp
  have h3 : (((w.alloc (.cells c1 t1)).alloc (.cells c2 t2)).alloc (.cells c3 t3)).heap[w.heap.size + 2]? = some (.cells c3 t3 (0, 0)) := by
    have := new_block ((w.alloc (.cells c1 t1)).alloc (.cells c2 t2)) c3 t3
    rwa [z2] at this
  have hb2 : Below ((w.alloc (.cells c1 t1)).alloc (.cells c2 t2)).heap.size ((w.alloc (.cells c1 t1)).alloc (.cells c2 t2)) (((w.alloc (.cells c1 t1)).alloc (.cells c2 t2)).alloc (.cells c3 t3)) := (Below.refl _ _).alloc (Nat.le_refl _) _
  have hb1 : Below (w.alloc (.cells c1 t1)).heap.size (w.alloc (.cells c1 t1)) ((w.alloc (.cells c1 t1)).alloc (.cells c2 t2)) := (Below.refl _ _).alloc (Nat.le_refl _) _
  have h2 : (((w.alloc (.cells c1 t1)).alloc (.cells c2 t2)).alloc (.cells c3 t3)).heap[w.heap.size + 1]? = some (.cells c2 t2 (0, 0)) := by
    rw [hb2.block (w.heap.size + 1) (by rw [z2]; omega)]
    have := new_block (w.alloc (.cells c1 t1)) c2 t2
    rwa [z1] at this
  have h1 : (((w.alloc (.cells c1 t1)).alloc (.cells c2 t2)).alloc (.cells c3 t3)).heap[w.heap.size]? = some (.cells c1 t1 (0, 0)) := by
    rw [hb2.block w.heap.size (by rw [z2]; omega), hb1.block w.heap.size (by rw [z1]; omega)]
    exact new_block _ _ _
  exact ⟨fun i => box_at h1 (by omega) hb i, fun i => box_at h2 (by omega) hb i, fun i => box_at h3 (by omega) hb i⟩
theorem own_low {w : World} {B B' : Nat} {e : TypeId} {k : IntKind} {v : Value} {xs : List Int} (h : Own w B e k v xs) (hB : B' ≤ B) : Own w B' e k v xs := by
  obtain ⟨h4, h5 | ⟨g, cap, cur, e, hg, r⟩⟩ := h
  · exact ⟨h4, Or.inl h5⟩
  · exact ⟨h4, Or.inr ⟨g, cap, cur, e, by omega, r⟩⟩
/-- what an own row reads. -/
theorem own_in {w : World} {B : Nat} {e : TypeId} {k : IntKind} {q : Option Addr} {N d : Nat} {xs : List Int} (h : Own w B e k (.slice q N d) xs) : Row w k q xs := by
  obtain ⟨_, _, he, _, _, h2⟩ := own_row h
  injection he with h3 _ h4
  subst h3 h4
  exact h2

end Go.Proofs.Ytfadpiipigkocaa
