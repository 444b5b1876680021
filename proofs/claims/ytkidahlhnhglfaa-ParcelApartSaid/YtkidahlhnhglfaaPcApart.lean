/-
  ParcelApart: the walk.
-/
import Derived.Test.YtkidahlhnhglfaaPcAwake
import Derived.Test.YtkidahlhnhglfaaPcSame
import Derived.Test.YtkidahlhnhglfaaQuietBelow
namespace Go.Proofs.Ytkidahlhnhglfaa
open Go.RowKit Go.Gz

theorem mixedPc : Try.prog.follows .mixedOrders = true := by kernel_rfl
theorem eq_ask (n : Nat) (a0 b0 a1 b1 a2 b2 a7 b7 : Int) (a3 b3 a4 b4 a5 b5 a6 b6 : ByteArray) (w : World) :
    (Op.equalIn (n + 2) 34 (.agg #[.int .i64 a0, .int .i64 a1, .int .i64 a2, .string a3, .string a4, .string a5, .string a6, .int .i64 a7]) (.agg #[.int .i64 b0, .int .i64 b1, .int .i64 b2, .string b3, .string b4, .string b5, .string b6, .int .i64 b7])).run Try.prog w = .ok (decide (a0 = b0) && (decide (a1 = b1) && (decide (a2 = b2) && (decide (a3.toList = b3.toList) && (decide (a4.toList = b4.toList) && (decide (a5.toList = b5.toList) && (decide (a6.toList = b6.toList) && (decide (a7 = b7))))))))) w := by
  by_cases h0 : a0 = b0
  · by_cases h1 : a1 = b1
    · by_cases h2 : a2 = b2
      · by_cases h3 : a3.toList = b3.toList
        · by_cases h4 : a4.toList = b4.toList
          · by_cases h5 : a5.toList = b5.toList
            · by_cases h6 : a6.toList = b6.toList
              · by_cases h7 : a7 = b7
                · simp [go_sem, h0, h1, h2, h3, h4, h5, h6, h7]
                · simp [go_sem, h0, h1, h2, h3, h4, h5, h6, h7]
              · simp [go_sem, h0, h1, h2, h3, h4, h5, h6]
            · simp [go_sem, h0, h1, h2, h3, h4, h5]
          · simp [go_sem, h0, h1, h2, h3, h4]
        · simp [go_sem, h0, h1, h2, h3]
      · simp [go_sem, h0, h1, h2]
    · simp [go_sem, h0, h1]
  · simp [go_sem, h0]
theorem box_at {w wr : World} {B g : Nat} {c : Array Value} {t : TypeId} (h : w.heap[g]? = some (.cells c t (0, 0))) (hg : g < B) (hb : Below B w wr) (i : Nat) : wr.cell? ⟨g, i, none⟩ = c[i]? := by
  rw [hb.cell (p := ⟨g, i, none⟩) hg]; exact cell_at h i
theorem three_boxes {w wr : World} {c1 c2 c3 : Array Value} {t1 t2 t3 : TypeId} (hb : Below (w.heap.size + 3) (((w.alloc (.cells c1 t1)).alloc (.cells c2 t2)).alloc (.cells c3 t3)) wr) : (∀ i, wr.cell? ⟨w.heap.size, i, none⟩ = c1[i]?) ∧ (∀ i, wr.cell? ⟨w.heap.size + 1, i, none⟩ = c2[i]?) ∧ (∀ i, wr.cell? ⟨w.heap.size + 2, i, none⟩ = c3[i]?) := by
  have z1 : (w.alloc (.cells c1 t1)).heap.size = w.heap.size + 1 := by simp
  have z2 : ((w.alloc (.cells c1 t1)).alloc (.cells c2 t2)).heap.size = w.heap.size + 2 := by simp
  have h3 : (((w.alloc (.cells c1 t1)).alloc (.cells c2 t2)).alloc (.cells c3 t3)).heap[w.heap.size + 2]? = some (.cells c3 t3 (0, 0)) := by
    have := new_block ((w.alloc (.cells c1 t1)).alloc (.cells c2 t2)) c3 t3
    rwa [z2] at this
  have hb2 : Below ((w.alloc (.cells c1 t1)).alloc (.cells c2 t2)).heap.size ((w.alloc (.cells c1 t1)).alloc (.cells c2 t2)) (((w.alloc (.cells c1 t1)).alloc (.cells c2 t2)).alloc (.cells c3 t3)) := (Below.refl _ _).alloc (Nat.le_refl _) _
  have hb1 : Below (w.alloc (.cells c1 t1)).heap.size (w.alloc (.cells c1 t1)) ((w.alloc (.cells c1 t1)).alloc (.cells c2 t2)) := (Below.refl _ _).alloc (Nat.le_refl _) _
  have h2 : (((w.alloc (.cells c1 t1)).alloc (.cells c2 t2)).alloc (.cells c3 t3)).heap[w.heap.size + 1]? = some (.cells c2 t2 (0, 0)) := by
    rw [hb2.block (w.heap.size + 1) (by rw [z2]; omega)]
    have := new_block (w.alloc (.cells c1 t1)) c2 t2
    rwa [z1] at this
  have h1 : (((w.alloc (.cells c1 t1)).alloc (.cells c2 t2)).alloc (.cells c3 t3)).heap[w.heap.size]? = some (.cells c1 t1 (0, 0)) := by
    rw [hb2.block w.heap.size (by rw [z2]; omega), hb1.block w.heap.size (by rw [z1]; omega)]
    exact new_block _ _ _
  exact ⟨fun i => box_at h1 (by omega) hb i, fun i => box_at h2 (by omega) hb i, fun i => box_at h3 (by omega) hb i⟩
theorem own_low {w : World} {B B' : Nat} {e : TypeId} {k : IntKind} {v : Value} {xs : List Int} (h : Own w B e k v xs) (hB : B' ≤ B) : Own w B' e k v xs := by
  obtain ⟨h4, h5 | ⟨g, cap, cur, e, hg, r⟩⟩ := h
  · exact ⟨h4, Or.inl h5⟩
  · exact ⟨h4, Or.inr ⟨g, cap, cur, e, by omega, r⟩⟩
/-- what an own row reads. -/
theorem own_in {w : World} {B : Nat} {e : TypeId} {k : IntKind} {q : Option Addr} {N d : Nat} {xs : List Int} (h : Own w B e k (.slice q N d) xs) : Row w k q xs := by
  obtain ⟨_, _, he, _, _, h2⟩ := own_row h
  injection he with h3 _ h4
  subst h3 h4
  exact h2

set_option maxHeartbeats 8000000 in
set_option maxRecDepth 1000000 in
theorem apart_walk (a b : AskL) (r r' : RepL) (p p' : Option Addr) (k k' : Nat) (W0 : World) (hp : Recs W0 p r.ls) (hl : r.ls.length ≤ 9223372036854775807) (hp' : Recs W0 p' r'.ls) (hl' : r'.ls.length ≤ 9223372036854775807) :
    Calls Try.prog 5 #[askV a, askV b, .agg #[.int .i64 r.c, .int .i64 r.s, .int .i64 r.e, .bool r.fd, .string (strB r.v), .slice p r.ls.length k, .string (strB r.nx), .bool r.mr, .int .i64 r'.c, .int .i64 r'.s, .int .i64 r'.e, .bool r'.fd, .string (strB r'.v), .slice p' r'.ls.length k', .string (strB r'.nx), .bool r'.mr]] W0 fun e w' => e = .returned (.bool true) ∧ Below W0.heap.size W0 w' := by
  have C0 := Lib.hid (fun w => awake_yes w)
  have CSA := Lib.hid (fun w => smallAsk_any a w)
  have CSB := Lib.hid (fun w => smallAsk_any b w)
  have CSP := Lib.hid (fun w h => smallReply_any r p k w hl h)
  have CSQ := Lib.hid (fun w h => smallReply_any r' p' k' w hl' h)
  have CAK := Lib.hid (fun w => ask_any a w)
  have CBK := Lib.hid (fun w => ask_any b w)
  have CRP := Lib.hid (fun w h1 h => reply_any r p k w h1 h)
  have CRQ := Lib.hid (fun w h1 h => reply_any r' p' k' w h1 h)
  have CSM := Lib.hid (fun w h h' => same_any r r' p p' k k' w h h' hl hl')
  have HAB := Lib.hid (show ∀ x y, askS a = some x → askS b = some y → (x = y ↔ a = b) from fun x y h h' => ask_inj h h')
  have HRR := Lib.hid (show ∀ x y, repS r = some x → repS r' = some y → (x = y ↔ r = r') from fun x y h h' => rep_inj h h')
  obtain ⟨SA, hSA⟩ : ∃ S, askS a = S := ⟨_, rfl⟩
  obtain ⟨SB, hSB⟩ : ∃ S, askS b = S := ⟨_, rfl⟩
  obtain ⟨SR, hSR⟩ : ∃ S, repS r = S := ⟨_, rfl⟩
  obtain ⟨SQ, hSQ⟩ : ∃ S, repS r' = S := ⟨_, rfl⟩
  rw [hSA] at CAK HAB
  rw [hSB] at CBK HAB
  rw [hSR] at CRP HRR
  rw [hSQ] at CRQ HRR
  clear hSA hSB hSR hSQ
  obtain ⟨qr, hqr⟩ : ∃ q : Bool, (q = true ↔ r = r') := by
    by_cases h : r = r'
    · exact ⟨true, by simp [h]⟩
    · exact ⟨false, by simp [h]⟩
  have HQR := Lib.hid hqr
  clear hqr
  obtain ⟨a0, a1, a2, a3, a4, a5, a6, a7⟩ := a
  obtain ⟨b0, b1, b2, b3, b4, b5, b6, b7⟩ := b
  obtain ⟨r0, r1, r2, r3, r4, ls, r6, r7⟩ := r
  obtain ⟨s0, s1, s2, s3, s4, ls', s6, s7⟩ := r'
  obtain ⟨qa, hqa⟩ : ∃ q : Bool, (decide (a0 = b0) && (decide (a1 = b1) && (decide (a2 = b2) && (decide ((strB a3).toList = (strB b3).toList) && (decide ((strB a4).toList = (strB b4).toList) && (decide ((strB a5).toList = (strB b5).toList) && (decide ((strB a6).toList = (strB b6).toList) && (decide (a7 = b7))))))))) = q := ⟨_, rfl⟩
  have HQA := Lib.hid (show qa = true ↔ (⟨a0, a1, a2, a3, a4, a5, a6, a7⟩ : AskL) = ⟨b0, b1, b2, b3, b4, b5, b6, b7⟩ from by
    rw [← hqa]
    simp only [Bool.and_eq_true, decide_eq_true_eq, toList_strB, AskL.mk.injEq])
  have hqe : ∀ w, (Op.equalIn 10000 34 (.agg #[.int .i64 a0, .int .i64 a1, .int .i64 a2, .string (strB a3), .string (strB a4), .string (strB a5), .string (strB a6), .int .i64 a7]) (.agg #[.int .i64 b0, .int .i64 b1, .int .i64 b2, .string (strB b3), .string (strB b4), .string (strB b5), .string (strB b6), .int .i64 b7])).run Try.prog w = .ok qa w := fun w => by
    rw [← hqa]
    exact eq_ask 9998 _ _ _ _ _ _ _ _ _ _ _ _ _ _ _ _ w
  have HQE := Lib.hid hqe
  clear hqa hqe
  unfold askV at CSA CAK CSB CBK ⊢
  unfold repV at CSP CRP CSQ CRQ CSM
  simp only at CSA CAK CSB CBK CSP CRP CSQ CRQ CSM hp hl hp' hl' ⊢
  have HP := Lib.hid hp
  have HP' := Lib.hid hp'
  obtain ⟨n, hN⟩ : ∃ n, ls.length = n := ⟨_, rfl⟩
  obtain ⟨n', hN'⟩ : ∃ n, ls'.length = n := ⟨_, rfl⟩
  rw [hN] at CSP CRP CSM ⊢
  rw [hN'] at CSQ CRQ CSM ⊢
  clear hp hl hp' hl' hN hN'
  go_enter Try.func5, Try.ntmps5
  go_wp2_with fail
  obtain ⟨W, hW⟩ : ∃ W, ((W0.alloc (.cells #[.int .i64 a0, .int .i64 a1, .int .i64 a2, .string (strB a3), .string (strB a4), .string (strB a5), .string (strB a6), .int .i64 a7] 34)).alloc (.cells #[.int .i64 b0, .int .i64 b1, .int .i64 b2, .string (strB b3), .string (strB b4), .string (strB b5), .string (strB b6), .int .i64 b7] 34)).alloc (.cells #[.int .i64 r0, .int .i64 r1, .int .i64 r2, .bool r3, .string (strB r4), .slice p n k, .string (strB r6), .bool r7, .int .i64 s0, .int .i64 s1, .int .i64 s2, .bool s3, .string (strB s4), .slice p' n' k', .string (strB s6), .bool s7] 48) = W := ⟨_, rfl⟩
  rw [hW]
  have HZ := Lib.hid (show W.heap.size = W0.heap.size + 3 by rw [← hW]; simp)
  have HC := Lib.hid (show ∀ wr, Below W.heap.size W wr → (∀ i, wr.cell? ⟨W0.heap.size, i, none⟩ = _) ∧ (∀ i, wr.cell? ⟨W0.heap.size + 1, i, none⟩ = _) ∧ (∀ i, wr.cell? ⟨W0.heap.size + 2, i, none⟩ = _) from fun wr hb => three_boxes (w := W0) (wr := wr) (by rw [hW, ← HZ.out]; exact hb))
  have HBW := Lib.hid (show Below W0.heap.size W0 W by rw [← hW]; exact (((Below.refl _ _).alloc (Nat.le_refl _) _).alloc (by simp) _).alloc (by simp; omega) _)
  clear hW
  refine (C0.out W).mono ?_
  rintro e w1 ⟨rfl, hb1⟩
  have HB1 := Lib.hid hb1
  clear hb1
  have c0 := (HC.out w1 HB1.out).1 0
  have c1 := (HC.out w1 HB1.out).1 1
  have c2 := (HC.out w1 HB1.out).1 2
  have c3 := (HC.out w1 HB1.out).1 3
  have c4 := (HC.out w1 HB1.out).1 4
  have c5 := (HC.out w1 HB1.out).1 5
  have c6 := (HC.out w1 HB1.out).1 6
  have c7 := (HC.out w1 HB1.out).1 7
  go_wp2_with fail
  refine (CSA.out w1).mono ?_
  rintro e w2 ⟨sb0, rfl, hb2⟩
  have HB2 := Lib.hid (HB1.out.trans (hb2.mono HB1.out.size))
  clear hb2 c0 c1 c2 c3 c4 c5 c6 c7
  cases sb0 with
  | false =>
    go_wp2_with fail
    go_ret
    exact ⟨rfl, HBW.out.trans (HB2.out.mono HBW.out.size)⟩
  | true =>
    have c0 := (HC.out w2 HB2.out).2.1 0
    have c1 := (HC.out w2 HB2.out).2.1 1
    have c2 := (HC.out w2 HB2.out).2.1 2
    have c3 := (HC.out w2 HB2.out).2.1 3
    have c4 := (HC.out w2 HB2.out).2.1 4
    have c5 := (HC.out w2 HB2.out).2.1 5
    have c6 := (HC.out w2 HB2.out).2.1 6
    have c7 := (HC.out w2 HB2.out).2.1 7
    go_wp2_with fail
    refine (CSB.out w2).mono ?_
    rintro e w3 ⟨sb1, rfl, hb3⟩
    have HB3 := Lib.hid (HB2.out.trans (hb3.mono HB2.out.size))
    clear hb3 c0 c1 c2 c3 c4 c5 c6 c7
    cases sb1 with
    | false =>
      go_wp2_with fail
      go_ret
      exact ⟨rfl, HBW.out.trans (HB3.out.mono HBW.out.size)⟩
    | true =>
      have c0 := (HC.out w3 HB3.out).2.2 0
      have c1 := (HC.out w3 HB3.out).2.2 1
      have c2 := (HC.out w3 HB3.out).2.2 2
      have c3 := (HC.out w3 HB3.out).2.2 3
      have c4 := (HC.out w3 HB3.out).2.2 4
      have c5 := (HC.out w3 HB3.out).2.2 5
      have c6 := (HC.out w3 HB3.out).2.2 6
      have c7 := (HC.out w3 HB3.out).2.2 7
      go_wp2_with fail
      refine (CSP.out w3 (HP.out.below (HBW.out.trans (HB3.out.mono HBW.out.size)))).mono ?_
      rintro e w4 ⟨sb2, rfl, hsm2, hb4⟩
      have HB4 := Lib.hid (HB3.out.trans (hb4.mono HB3.out.size))
      clear hb4 c0 c1 c2 c3 c4 c5 c6 c7
      cases sb2 with
      | false =>
        clear hsm2
        go_wp2_with fail
        go_ret
        exact ⟨rfl, HBW.out.trans (HB4.out.mono HBW.out.size)⟩
      | true =>
        have HSM2 := Lib.hid (hsm2 rfl)
        clear hsm2
        have c8 := (HC.out w4 HB4.out).2.2 8
        have c9 := (HC.out w4 HB4.out).2.2 9
        have c10 := (HC.out w4 HB4.out).2.2 10
        have c11 := (HC.out w4 HB4.out).2.2 11
        have c12 := (HC.out w4 HB4.out).2.2 12
        have c13 := (HC.out w4 HB4.out).2.2 13
        have c14 := (HC.out w4 HB4.out).2.2 14
        have c15 := (HC.out w4 HB4.out).2.2 15
        go_wp2_with fail
        refine (CSQ.out w4 (HP'.out.below (HBW.out.trans (HB4.out.mono HBW.out.size)))).mono ?_
        rintro e w5 ⟨sb3, rfl, hsm3, hb5⟩
        have HB5 := Lib.hid (HB4.out.trans (hb5.mono HB4.out.size))
        clear hb5 c8 c9 c10 c11 c12 c13 c14 c15
        cases sb3 with
        | false =>
          clear hsm3
          go_wp2_with fail
          go_ret
          exact ⟨rfl, HBW.out.trans (HB5.out.mono HBW.out.size)⟩
        | true =>
          have HSM3 := Lib.hid (hsm3 rfl)
          clear hsm3
          have c0 := (HC.out w5 HB5.out).1 0
          have c1 := (HC.out w5 HB5.out).1 1
          have c2 := (HC.out w5 HB5.out).1 2
          have c3 := (HC.out w5 HB5.out).1 3
          have c4 := (HC.out w5 HB5.out).1 4
          have c5 := (HC.out w5 HB5.out).1 5
          have c6 := (HC.out w5 HB5.out).1 6
          have c7 := (HC.out w5 HB5.out).1 7
          go_wp2_with fail
          refine (CAK.out w5).mono ?_
          rintro e w6 ⟨v5, rfl, hown5, hb6⟩
          obtain ⟨q5, d5, rfl, -, -, -⟩ := own_row hown5
          rw [nums_length] at hown5 ⊢
          have HB6 := Lib.hid (HB5.out.trans (hb6.mono HB5.out.size))
          have HO5 := Lib.hid (own_low hown5 HB5.out.size)
          clear hb6 hown5 c0 c1 c2 c3 c4 c5 c6 c7
          obtain ⟨N5, hN5⟩ : ∃ N, (SA.getD []).length = N := ⟨_, rfl⟩
          rw [hN5] at HO5 ⊢
          have HN5 := Lib.hid hN5
          clear hN5
          obtain ⟨E5, hE5⟩ : ∃ E, errP SA = E := ⟨_, rfl⟩
          rw [hE5]
          have HE5 := Lib.hid hE5
          clear hE5
          have c0 := (HC.out w6 HB6.out).2.1 0
          have c1 := (HC.out w6 HB6.out).2.1 1
          have c2 := (HC.out w6 HB6.out).2.1 2
          have c3 := (HC.out w6 HB6.out).2.1 3
          have c4 := (HC.out w6 HB6.out).2.1 4
          have c5 := (HC.out w6 HB6.out).2.1 5
          have c6 := (HC.out w6 HB6.out).2.1 6
          have c7 := (HC.out w6 HB6.out).2.1 7
          go_wp2_with fail
          refine (CBK.out w6).mono ?_
          rintro e w7 ⟨v6, rfl, hown6, hb7⟩
          obtain ⟨q6, d6, rfl, -, -, -⟩ := own_row hown6
          rw [nums_length] at hown6 ⊢
          have HB7 := Lib.hid (HB6.out.trans (hb7.mono HB6.out.size))
          have HO6 := Lib.hid (own_low hown6 HB6.out.size)
          have HO5 := Lib.hid (below_own HO5.out hb7)
          clear hb7 hown6 c0 c1 c2 c3 c4 c5 c6 c7
          obtain ⟨N6, hN6⟩ : ∃ N, (SB.getD []).length = N := ⟨_, rfl⟩
          rw [hN6] at HO6 ⊢
          have HN6 := Lib.hid hN6
          clear hN6
          obtain ⟨E6, hE6⟩ : ∃ E, errP SB = E := ⟨_, rfl⟩
          rw [hE6]
          have HE6 := Lib.hid hE6
          clear hE6
          have c0 := (HC.out w7 HB7.out).2.2 0
          have c1 := (HC.out w7 HB7.out).2.2 1
          have c2 := (HC.out w7 HB7.out).2.2 2
          have c3 := (HC.out w7 HB7.out).2.2 3
          have c4 := (HC.out w7 HB7.out).2.2 4
          have c5 := (HC.out w7 HB7.out).2.2 5
          have c6 := (HC.out w7 HB7.out).2.2 6
          have c7 := (HC.out w7 HB7.out).2.2 7
          go_wp2_with fail
          refine (CRP.out w7 (by have := HSM2.out; omega) (HP.out.below (HBW.out.trans (HB7.out.mono HBW.out.size)))).mono ?_
          rintro e w8 ⟨v7, rfl, hown7, hb8⟩
          obtain ⟨q7, d7, rfl, -, -, -⟩ := own_row hown7
          rw [nums_length] at hown7 ⊢
          have HB8 := Lib.hid (HB7.out.trans (hb8.mono HB7.out.size))
          have HO7 := Lib.hid (own_low hown7 HB7.out.size)
          have HO5 := Lib.hid (below_own HO5.out hb8)
          have HO6 := Lib.hid (below_own HO6.out hb8)
          clear hb8 hown7 c0 c1 c2 c3 c4 c5 c6 c7
          obtain ⟨N7, hN7⟩ : ∃ N, (SR.getD []).length = N := ⟨_, rfl⟩
          rw [hN7] at HO7 ⊢
          have HN7 := Lib.hid hN7
          clear hN7
          obtain ⟨E7, hE7⟩ : ∃ E, errP SR = E := ⟨_, rfl⟩
          rw [hE7]
          have HE7 := Lib.hid hE7
          clear hE7
          have c8 := (HC.out w8 HB8.out).2.2 8
          have c9 := (HC.out w8 HB8.out).2.2 9
          have c10 := (HC.out w8 HB8.out).2.2 10
          have c11 := (HC.out w8 HB8.out).2.2 11
          have c12 := (HC.out w8 HB8.out).2.2 12
          have c13 := (HC.out w8 HB8.out).2.2 13
          have c14 := (HC.out w8 HB8.out).2.2 14
          have c15 := (HC.out w8 HB8.out).2.2 15
          go_wp2_with fail
          refine (CRQ.out w8 (by have := HSM3.out; omega) (HP'.out.below (HBW.out.trans (HB8.out.mono HBW.out.size)))).mono ?_
          rintro e w9 ⟨v8, rfl, hown8, hb9⟩
          obtain ⟨q8, d8, rfl, -, -, -⟩ := own_row hown8
          rw [nums_length] at hown8 ⊢
          have HB9 := Lib.hid (HB8.out.trans (hb9.mono HB8.out.size))
          have HO8 := Lib.hid (own_low hown8 HB8.out.size)
          have HO5 := Lib.hid (below_own HO5.out hb9)
          have HO6 := Lib.hid (below_own HO6.out hb9)
          have HO7 := Lib.hid (below_own HO7.out hb9)
          clear hb9 hown8 c8 c9 c10 c11 c12 c13 c14 c15
          obtain ⟨N8, hN8⟩ : ∃ N, (SQ.getD []).length = N := ⟨_, rfl⟩
          rw [hN8] at HO8 ⊢
          have HN8 := Lib.hid hN8
          clear hN8
          obtain ⟨E8, hE8⟩ : ∃ E, errP SQ = E := ⟨_, rfl⟩
          rw [hE8]
          have HE8 := Lib.hid hE8
          clear hE8
          obtain ⟨t5, ht5⟩ : ∃ s, strB (SA.getD []) = s := ⟨_, rfl⟩
          have X5 : ∀ pw : BelowOf w9, (convert 25 9 (.slice q5 N5 d5)).run Try.prog pw.w' = .ok (.string t5) pw.w' := fun pw => by
            have h := run_string pw.w' (SA.getD []) q5 d5 ((own_in HO5.out).below pw.h)
            rw [HN5.out] at h
            rw [← ht5]
            exact h
          have HT5 := Lib.hid ht5
          clear ht5
          obtain ⟨t6, ht6⟩ : ∃ s, strB (SB.getD []) = s := ⟨_, rfl⟩
          have X6 : ∀ pw : BelowOf w9, (convert 25 9 (.slice q6 N6 d6)).run Try.prog pw.w' = .ok (.string t6) pw.w' := fun pw => by
            have h := run_string pw.w' (SB.getD []) q6 d6 ((own_in HO6.out).below pw.h)
            rw [HN6.out] at h
            rw [← ht6]
            exact h
          have HT6 := Lib.hid ht6
          clear ht6
          obtain ⟨t7, ht7⟩ : ∃ s, strB (SR.getD []) = s := ⟨_, rfl⟩
          have X7 : ∀ pw : BelowOf w9, (convert 25 9 (.slice q7 N7 d7)).run Try.prog pw.w' = .ok (.string t7) pw.w' := fun pw => by
            have h := run_string pw.w' (SR.getD []) q7 d7 ((own_in HO7.out).below pw.h)
            rw [HN7.out] at h
            rw [← ht7]
            exact h
          have HT7 := Lib.hid ht7
          clear ht7
          obtain ⟨t8, ht8⟩ : ∃ s, strB (SQ.getD []) = s := ⟨_, rfl⟩
          have X8 : ∀ pw : BelowOf w9, (convert 25 9 (.slice q8 N8 d8)).run Try.prog pw.w' = .ok (.string t8) pw.w' := fun pw => by
            have h := run_string pw.w' (SQ.getD []) q8 d8 ((own_in HO8.out).below pw.h)
            rw [HN8.out] at h
            rw [← ht8]
            exact h
          have HT8 := Lib.hid ht8
          clear ht8
          have f0 := fun pw : BelowOf w9 => (HC.out pw.w' (HB9.out.trans (pw.h.mono HB9.out.size))).1 0
          have f1 := fun pw : BelowOf w9 => (HC.out pw.w' (HB9.out.trans (pw.h.mono HB9.out.size))).1 1
          have f2 := fun pw : BelowOf w9 => (HC.out pw.w' (HB9.out.trans (pw.h.mono HB9.out.size))).1 2
          have f3 := fun pw : BelowOf w9 => (HC.out pw.w' (HB9.out.trans (pw.h.mono HB9.out.size))).1 3
          have f4 := fun pw : BelowOf w9 => (HC.out pw.w' (HB9.out.trans (pw.h.mono HB9.out.size))).1 4
          have f5 := fun pw : BelowOf w9 => (HC.out pw.w' (HB9.out.trans (pw.h.mono HB9.out.size))).1 5
          have f6 := fun pw : BelowOf w9 => (HC.out pw.w' (HB9.out.trans (pw.h.mono HB9.out.size))).1 6
          have f7 := fun pw : BelowOf w9 => (HC.out pw.w' (HB9.out.trans (pw.h.mono HB9.out.size))).1 7
          have g0 := fun pw : BelowOf w9 => (HC.out pw.w' (HB9.out.trans (pw.h.mono HB9.out.size))).2.1 0
          have g1 := fun pw : BelowOf w9 => (HC.out pw.w' (HB9.out.trans (pw.h.mono HB9.out.size))).2.1 1
          have g2 := fun pw : BelowOf w9 => (HC.out pw.w' (HB9.out.trans (pw.h.mono HB9.out.size))).2.1 2
          have g3 := fun pw : BelowOf w9 => (HC.out pw.w' (HB9.out.trans (pw.h.mono HB9.out.size))).2.1 3
          have g4 := fun pw : BelowOf w9 => (HC.out pw.w' (HB9.out.trans (pw.h.mono HB9.out.size))).2.1 4
          have g5 := fun pw : BelowOf w9 => (HC.out pw.w' (HB9.out.trans (pw.h.mono HB9.out.size))).2.1 5
          have g6 := fun pw : BelowOf w9 => (HC.out pw.w' (HB9.out.trans (pw.h.mono HB9.out.size))).2.1 6
          have g7 := fun pw : BelowOf w9 => (HC.out pw.w' (HB9.out.trans (pw.h.mono HB9.out.size))).2.1 7
          have k0 := fun pw : BelowOf w9 => (HC.out pw.w' (HB9.out.trans (pw.h.mono HB9.out.size))).2.2 0
          have k1 := fun pw : BelowOf w9 => (HC.out pw.w' (HB9.out.trans (pw.h.mono HB9.out.size))).2.2 1
          have k2 := fun pw : BelowOf w9 => (HC.out pw.w' (HB9.out.trans (pw.h.mono HB9.out.size))).2.2 2
          have k3 := fun pw : BelowOf w9 => (HC.out pw.w' (HB9.out.trans (pw.h.mono HB9.out.size))).2.2 3
          have k4 := fun pw : BelowOf w9 => (HC.out pw.w' (HB9.out.trans (pw.h.mono HB9.out.size))).2.2 4
          have k5 := fun pw : BelowOf w9 => (HC.out pw.w' (HB9.out.trans (pw.h.mono HB9.out.size))).2.2 5
          have k6 := fun pw : BelowOf w9 => (HC.out pw.w' (HB9.out.trans (pw.h.mono HB9.out.size))).2.2 6
          have k7 := fun pw : BelowOf w9 => (HC.out pw.w' (HB9.out.trans (pw.h.mono HB9.out.size))).2.2 7
          have k8 := fun pw : BelowOf w9 => (HC.out pw.w' (HB9.out.trans (pw.h.mono HB9.out.size))).2.2 8
          have k9 := fun pw : BelowOf w9 => (HC.out pw.w' (HB9.out.trans (pw.h.mono HB9.out.size))).2.2 9
          have k10 := fun pw : BelowOf w9 => (HC.out pw.w' (HB9.out.trans (pw.h.mono HB9.out.size))).2.2 10
          have k11 := fun pw : BelowOf w9 => (HC.out pw.w' (HB9.out.trans (pw.h.mono HB9.out.size))).2.2 11
          have k12 := fun pw : BelowOf w9 => (HC.out pw.w' (HB9.out.trans (pw.h.mono HB9.out.size))).2.2 12
          have k13 := fun pw : BelowOf w9 => (HC.out pw.w' (HB9.out.trans (pw.h.mono HB9.out.size))).2.2 13
          have k14 := fun pw : BelowOf w9 => (HC.out pw.w' (HB9.out.trans (pw.h.mono HB9.out.size))).2.2 14
          have k15 := fun pw : BelowOf w9 => (HC.out pw.w' (HB9.out.trans (pw.h.mono HB9.out.size))).2.2 15
          have HM := Lib.hid (show ∀ pw : BelowOf w9, Calls Try.prog 18 #[.agg #[.int .i64 r0, .int .i64 r1, .int .i64 r2, .bool r3, .string (strB r4), .slice p n k, .string (strB r6), .bool r7], .agg #[.int .i64 s0, .int .i64 s1, .int .i64 s2, .bool s3, .string (strB s4), .slice p' n' k', .string (strB s6), .bool s7]] pw.w' (fun e w'' => e = .returned (.bool qr) ∧ ∃ q : BelowOf w9, w'' = q.w') from fun pw =>
            (CSM.out pw.w' (HP.out.below (HBW.out.trans ((HB9.out.trans (pw.h.mono HB9.out.size)).mono HBW.out.size))) (HP'.out.below (HBW.out.trans ((HB9.out.trans (pw.h.mono HB9.out.size)).mono HBW.out.size)))).mono fun e w'' h => by
              obtain ⟨b, rfl, hb, hw⟩ := h
              have : b = qr := by
                have := HQR.out
                cases b <;> cases qr <;> simp_all
              rw [this]
              exact ⟨rfl, ⟨w'', pw.h.trans (hw.mono pw.h.size)⟩, rfl⟩)
          have hqe := HQE.out
          have mx := mixedPc
          clear HQE
          obtain ⟨la, hla⟩ : ∃ q : Bool, decide (t5.toList = t6.toList) = q := ⟨_, rfl⟩
          obtain ⟨lr, hlr⟩ : ∃ q : Bool, decide (t7.toList = t8.toList) = q := ⟨_, rfl⟩
          have HLA := Lib.hid (show SA.isSome = true → SB.isSome = true → la = qa from fun h h' => by
            obtain ⟨x, rfl⟩ := Option.isSome_iff_exists.1 h
            obtain ⟨y, rfl⟩ := Option.isSome_iff_exists.1 h'
            have h1 := HAB.out x y rfl rfl
            have h2 := HQA.out
            rw [← hla, ← HT5.out, ← HT6.out, toList_strB, toList_strB]
            simp only [Option.getD_some]
            by_cases e : x = y
            · rw [decide_eq_true e, h2.2 (h1.1 e)]
            · rw [decide_eq_false e]
              cases qa
              · rfl
              · exact absurd (h1.2 (h2.1 rfl)) e)
          have HLR := Lib.hid (show SR.isSome = true → SQ.isSome = true → lr = qr from fun h h' => by
            obtain ⟨x, rfl⟩ := Option.isSome_iff_exists.1 h
            obtain ⟨y, rfl⟩ := Option.isSome_iff_exists.1 h'
            have h1 := HRR.out x y rfl rfl
            have h2 := HQR.out
            rw [← hlr, ← HT7.out, ← HT8.out, toList_strB, toList_strB]
            simp only [Option.getD_some]
            by_cases e : x = y
            · rw [decide_eq_true e, h2.2 (h1.1 e)]
            · rw [decide_eq_false e]
              cases qr
              · rfl
              · exact absurd (h1.2 (h2.1 rfl)) e)
          cases SA with
          | none =>
            obtain rfl : E5 = 1 := HE5.out.symm
            cases SR with
            | none =>
              obtain rfl : E7 = 1 := HE7.out.symm
              go_wp2_with fail
              refine wp_region_quiet_below mixedPc (by kernel_rfl) ?_
              repeat (go_big_quiet_step (first | (go_at_call 18; with_reducible exact HM.out _)))
              refine wpQuiet_nil ?_
              intro wq hw'
              obtain ⟨⟨wz, hbq⟩, hw''⟩ := hw'
              obtain rfl : wq = wz := hw''
              go_wp2_with fail
              go_ret
              exact ⟨rfl, HBW.out.trans ((HB9.out.trans (hbq.mono HB9.out.size)).mono HBW.out.size)⟩
            | some xr =>
              obtain rfl : E7 = 0 := HE7.out.symm
              cases SQ with
              | none =>
                obtain rfl : E8 = 1 := HE8.out.symm
                go_wp2_with fail
                refine wp_region_quiet_below mixedPc (by kernel_rfl) ?_
                repeat (go_big_quiet_step (first | (go_at_call 18; with_reducible exact HM.out _)))
                refine wpQuiet_nil ?_
                intro wq hw'
                obtain ⟨⟨wz, hbq⟩, hw''⟩ := hw'
                obtain rfl : wq = wz := hw''
                go_wp2_with fail
                go_ret
                exact ⟨rfl, HBW.out.trans ((HB9.out.trans (hbq.mono HB9.out.size)).mono HBW.out.size)⟩
              | some xq =>
                obtain rfl : E8 = 0 := HE8.out.symm
                have er := HLR.out rfl rfl
                subst er
                cases lr with
                | true =>
                  obtain rfl : t7 = t8 := toList_inj (of_decide_eq_true hlr)
                  go_wp2_with fail
                  refine wp_region_quiet_below mixedPc (by kernel_rfl) ?_
                  repeat (go_big_quiet_step (first | (go_at_call 18; with_reducible exact HM.out _)))
                  refine wpQuiet_nil ?_
                  intro wq hw'
                  obtain ⟨⟨wz, hbq⟩, hw''⟩ := hw'
                  obtain rfl : wq = wz := hw''
                  go_wp2_with fail
                  go_ret
                  exact ⟨rfl, HBW.out.trans ((HB9.out.trans (hbq.mono HB9.out.size)).mono HBW.out.size)⟩
                | false =>
                  have hnr : (t7.toList == t8.toList) = false := by simpa using of_decide_eq_false hlr
                  go_wp2_with fail
                  refine wp_region_quiet_below mixedPc (by kernel_rfl) ?_
                  repeat (go_big_quiet_step (first | (go_at_call 18; with_reducible exact HM.out _)))
                  refine wpQuiet_nil ?_
                  intro wq hw'
                  obtain ⟨⟨wz, hbq⟩, hw''⟩ := hw'
                  obtain rfl : wq = wz := hw''
                  go_wp2_with fail
                  go_ret
                  exact ⟨rfl, HBW.out.trans ((HB9.out.trans (hbq.mono HB9.out.size)).mono HBW.out.size)⟩
          | some xa =>
            obtain rfl : E5 = 0 := HE5.out.symm
            cases SB with
            | none =>
              obtain rfl : E6 = 1 := HE6.out.symm
              cases SR with
              | none =>
                obtain rfl : E7 = 1 := HE7.out.symm
                go_wp2_with fail
                refine wp_region_quiet_below mixedPc (by kernel_rfl) ?_
                repeat (go_big_quiet_step (first | (go_at_call 18; with_reducible exact HM.out _)))
                refine wpQuiet_nil ?_
                intro wq hw'
                obtain ⟨⟨wz, hbq⟩, hw''⟩ := hw'
                obtain rfl : wq = wz := hw''
                go_wp2_with fail
                go_ret
                exact ⟨rfl, HBW.out.trans ((HB9.out.trans (hbq.mono HB9.out.size)).mono HBW.out.size)⟩
              | some xr =>
                obtain rfl : E7 = 0 := HE7.out.symm
                cases SQ with
                | none =>
                  obtain rfl : E8 = 1 := HE8.out.symm
                  go_wp2_with fail
                  refine wp_region_quiet_below mixedPc (by kernel_rfl) ?_
                  repeat (go_big_quiet_step (first | (go_at_call 18; with_reducible exact HM.out _)))
                  refine wpQuiet_nil ?_
                  intro wq hw'
                  obtain ⟨⟨wz, hbq⟩, hw''⟩ := hw'
                  obtain rfl : wq = wz := hw''
                  go_wp2_with fail
                  go_ret
                  exact ⟨rfl, HBW.out.trans ((HB9.out.trans (hbq.mono HB9.out.size)).mono HBW.out.size)⟩
                | some xq =>
                  obtain rfl : E8 = 0 := HE8.out.symm
                  have er := HLR.out rfl rfl
                  subst er
                  cases lr with
                  | true =>
                    obtain rfl : t7 = t8 := toList_inj (of_decide_eq_true hlr)
                    go_wp2_with fail
                    refine wp_region_quiet_below mixedPc (by kernel_rfl) ?_
                    repeat (go_big_quiet_step (first | (go_at_call 18; with_reducible exact HM.out _)))
                    refine wpQuiet_nil ?_
                    intro wq hw'
                    obtain ⟨⟨wz, hbq⟩, hw''⟩ := hw'
                    obtain rfl : wq = wz := hw''
                    go_wp2_with fail
                    go_ret
                    exact ⟨rfl, HBW.out.trans ((HB9.out.trans (hbq.mono HB9.out.size)).mono HBW.out.size)⟩
                  | false =>
                    have hnr : (t7.toList == t8.toList) = false := by simpa using of_decide_eq_false hlr
                    go_wp2_with fail
                    refine wp_region_quiet_below mixedPc (by kernel_rfl) ?_
                    repeat (go_big_quiet_step (first | (go_at_call 18; with_reducible exact HM.out _)))
                    refine wpQuiet_nil ?_
                    intro wq hw'
                    obtain ⟨⟨wz, hbq⟩, hw''⟩ := hw'
                    obtain rfl : wq = wz := hw''
                    go_wp2_with fail
                    go_ret
                    exact ⟨rfl, HBW.out.trans ((HB9.out.trans (hbq.mono HB9.out.size)).mono HBW.out.size)⟩
            | some xb =>
              obtain rfl : E6 = 0 := HE6.out.symm
              have ea := HLA.out rfl rfl
              subst ea
              cases la with
              | true =>
                obtain rfl : t5 = t6 := toList_inj (of_decide_eq_true hla)
                cases SR with
                | none =>
                  obtain rfl : E7 = 1 := HE7.out.symm
                  go_wp2_with fail
                  refine wp_region_quiet_below mixedPc (by kernel_rfl) ?_
                  repeat (go_big_quiet_step (first | (go_at_call 18; with_reducible exact HM.out _)))
                  refine wpQuiet_nil ?_
                  intro wq hw'
                  obtain ⟨⟨wz, hbq⟩, hw''⟩ := hw'
                  obtain rfl : wq = wz := hw''
                  go_wp2_with fail
                  go_ret
                  exact ⟨rfl, HBW.out.trans ((HB9.out.trans (hbq.mono HB9.out.size)).mono HBW.out.size)⟩
                | some xr =>
                  obtain rfl : E7 = 0 := HE7.out.symm
                  cases SQ with
                  | none =>
                    obtain rfl : E8 = 1 := HE8.out.symm
                    go_wp2_with fail
                    refine wp_region_quiet_below mixedPc (by kernel_rfl) ?_
                    repeat (go_big_quiet_step (first | (go_at_call 18; with_reducible exact HM.out _)))
                    refine wpQuiet_nil ?_
                    intro wq hw'
                    obtain ⟨⟨wz, hbq⟩, hw''⟩ := hw'
                    obtain rfl : wq = wz := hw''
                    go_wp2_with fail
                    go_ret
                    exact ⟨rfl, HBW.out.trans ((HB9.out.trans (hbq.mono HB9.out.size)).mono HBW.out.size)⟩
                  | some xq =>
                    obtain rfl : E8 = 0 := HE8.out.symm
                    have er := HLR.out rfl rfl
                    subst er
                    cases lr with
                    | true =>
                      obtain rfl : t7 = t8 := toList_inj (of_decide_eq_true hlr)
                      go_wp2_with fail
                      refine wp_region_quiet_below mixedPc (by kernel_rfl) ?_
                      repeat (go_big_quiet_step (first | (go_at_call 18; with_reducible exact HM.out _)))
                      refine wpQuiet_nil ?_
                      intro wq hw'
                      obtain ⟨⟨wz, hbq⟩, hw''⟩ := hw'
                      obtain rfl : wq = wz := hw''
                      go_wp2_with fail
                      go_ret
                      exact ⟨rfl, HBW.out.trans ((HB9.out.trans (hbq.mono HB9.out.size)).mono HBW.out.size)⟩
                    | false =>
                      have hnr : (t7.toList == t8.toList) = false := by simpa using of_decide_eq_false hlr
                      go_wp2_with fail
                      refine wp_region_quiet_below mixedPc (by kernel_rfl) ?_
                      repeat (go_big_quiet_step (first | (go_at_call 18; with_reducible exact HM.out _)))
                      refine wpQuiet_nil ?_
                      intro wq hw'
                      obtain ⟨⟨wz, hbq⟩, hw''⟩ := hw'
                      obtain rfl : wq = wz := hw''
                      go_wp2_with fail
                      go_ret
                      exact ⟨rfl, HBW.out.trans ((HB9.out.trans (hbq.mono HB9.out.size)).mono HBW.out.size)⟩
              | false =>
                have hna : (t5.toList == t6.toList) = false := by simpa using of_decide_eq_false hla
                cases SR with
                | none =>
                  obtain rfl : E7 = 1 := HE7.out.symm
                  go_wp2_with fail
                  refine wp_region_quiet_below mixedPc (by kernel_rfl) ?_
                  repeat (go_big_quiet_step (first | (go_at_call 18; with_reducible exact HM.out _)))
                  refine wpQuiet_nil ?_
                  intro wq hw'
                  obtain ⟨⟨wz, hbq⟩, hw''⟩ := hw'
                  obtain rfl : wq = wz := hw''
                  go_wp2_with fail
                  go_ret
                  exact ⟨rfl, HBW.out.trans ((HB9.out.trans (hbq.mono HB9.out.size)).mono HBW.out.size)⟩
                | some xr =>
                  obtain rfl : E7 = 0 := HE7.out.symm
                  cases SQ with
                  | none =>
                    obtain rfl : E8 = 1 := HE8.out.symm
                    go_wp2_with fail
                    refine wp_region_quiet_below mixedPc (by kernel_rfl) ?_
                    repeat (go_big_quiet_step (first | (go_at_call 18; with_reducible exact HM.out _)))
                    refine wpQuiet_nil ?_
                    intro wq hw'
                    obtain ⟨⟨wz, hbq⟩, hw''⟩ := hw'
                    obtain rfl : wq = wz := hw''
                    go_wp2_with fail
                    go_ret
                    exact ⟨rfl, HBW.out.trans ((HB9.out.trans (hbq.mono HB9.out.size)).mono HBW.out.size)⟩
                  | some xq =>
                    obtain rfl : E8 = 0 := HE8.out.symm
                    have er := HLR.out rfl rfl
                    subst er
                    cases lr with
                    | true =>
                      obtain rfl : t7 = t8 := toList_inj (of_decide_eq_true hlr)
                      go_wp2_with fail
                      refine wp_region_quiet_below mixedPc (by kernel_rfl) ?_
                      repeat (go_big_quiet_step (first | (go_at_call 18; with_reducible exact HM.out _)))
                      refine wpQuiet_nil ?_
                      intro wq hw'
                      obtain ⟨⟨wz, hbq⟩, hw''⟩ := hw'
                      obtain rfl : wq = wz := hw''
                      go_wp2_with fail
                      go_ret
                      exact ⟨rfl, HBW.out.trans ((HB9.out.trans (hbq.mono HB9.out.size)).mono HBW.out.size)⟩
                    | false =>
                      have hnr : (t7.toList == t8.toList) = false := by simpa using of_decide_eq_false hlr
                      go_wp2_with fail
                      refine wp_region_quiet_below mixedPc (by kernel_rfl) ?_
                      repeat (go_big_quiet_step (first | (go_at_call 18; with_reducible exact HM.out _)))
                      refine wpQuiet_nil ?_
                      intro wq hw'
                      obtain ⟨⟨wz, hbq⟩, hw''⟩ := hw'
                      obtain rfl : wq = wz := hw''
                      go_wp2_with fail
                      go_ret
                      exact ⟨rfl, HBW.out.trans ((HB9.out.trans (hbq.mono HB9.out.size)).mono HBW.out.size)⟩
end Go.Proofs.Ytkidahlhnhglfaa
