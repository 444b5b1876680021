/-
  ParcelCuts: the walk.
-/
import Derived.Test.YtkidahlhnhglfaaPcAwake
namespace Go.Proofs.Ytkidahlhnhglfaa
open Go.RowKit

theorem own_empty8 (w : World) (B : Nat) (hB : B ≤ w.heap.size) : Own (w.alloc (.cells #[] 5)) B 5 .u8 (.slice (some ⟨w.heap.size, 0, none⟩) 0 0) [] :=
  World.ownsRow_made w #[] 0 hB (by unfold maxLen; omega) rfl
theorem own_empty9 (w : World) (c : Array Value) (t : TypeId) (B : Nat) (hB : B ≤ w.heap.size) : Own ((w.alloc (.cells c t)).alloc (.cells #[] 5)) B 5 .u8 (.slice (some ⟨w.heap.size + 1, 0, none⟩) 0 0) [] := by
  have := own_empty8 (w.alloc (.cells c t)) B (by simp; omega)
  simpa using this
theorem row_take {w : World} {p : Option Addr} {l : List UInt8} (h : Row w .u8 p (nums l)) (k : Nat) : Row w .u8 p (nums (l.take k)) := by
  by_cases h0 : l.take k = []
  · exact Or.inl (by rw [h0]; rfl)
  · rcases h with h | ⟨b, o, rfl, hlt, hc⟩
    · have : l = [] := by simpa [nums] using h
      subst this; simp at h0
    · refine Or.inr ⟨b, o, rfl, hlt, fun j hj => ?_⟩
      rw [nums_length, List.length_take] at hj
      rw [hc j (by rw [nums_length]; omega), nums_getD _ _ (by omega), nums_getD _ _ (by rw [List.length_take]; omega)]
      simp [List.getD, show j < k by omega]
theorem own_low {w : World} {B B' : Nat} {e : TypeId} {k : IntKind} {v : Value} {xs : List Int} (h : Own w B e k v xs) (hB : B' ≤ B) : Own w B' e k v xs := by
  obtain ⟨h4, h5 | ⟨g, cap, cur, e, hg, r⟩⟩ := h
  · exact ⟨h4, Or.inl h5⟩
  · exact ⟨h4, Or.inr ⟨g, cap, cur, e, by omega, r⟩⟩
/-- what an own row reads. -/
theorem own_in {w : World} {B : Nat} {e : TypeId} {k : IntKind} {q : Option Addr} {N d : Nat} {xs : List Int} (h : Own w B e k (.slice q N d) xs) : Row w k q xs ∧ (q = none → d = 0) := by
  obtain ⟨_, _, he, _, h1, h2⟩ := own_row h
  injection he with h3 _ h4
  subst h3 h4
  exact ⟨h2, h1⟩
theorem own_some {w : World} {B : Nat} {e : TypeId} {k : IntKind} {q : Option Addr} {N d : Nat} {xs : List Int} (h : Own w B e k (.slice q N d) xs) (hx : xs ≠ []) : ∃ g, q = some ⟨g, 0, none⟩ := by
  obtain ⟨_, ⟨h1, h2⟩ | ⟨g, cap, cur, h3, _⟩⟩ := h
  · exact absurd (List.eq_nil_of_length_eq_zero h2) hx
  · injection h3 with h3
    exact ⟨g, h3⟩
theorem two_boxes {w wr : World} {c1 c2 : Array Value} {t1 t2 : TypeId} (hb : Below (w.heap.size + 2) ((w.alloc (.cells c1 t1)).alloc (.cells c2 t2)) wr) : (∀ i, wr.cell? ⟨w.heap.size, i, none⟩ = c1[i]?) ∧ (∀ i, wr.cell? ⟨w.heap.size + 1, i, none⟩ = c2[i]?) := by
  have z : (w.alloc (.cells c1 t1)).heap.size = w.heap.size + 1 := by simp
  have h2 : ((w.alloc (.cells c1 t1)).alloc (.cells c2 t2)).heap[w.heap.size + 1]? = some (.cells c2 t2 (0, 0)) := by
    have := new_block (w.alloc (.cells c1 t1)) c2 t2
    rwa [z] at this
  have h1 : ((w.alloc (.cells c1 t1)).alloc (.cells c2 t2)).heap[w.heap.size]? = some (.cells c1 t1 (0, 0)) := by
    have hb1 : Below (w.alloc (.cells c1 t1)).heap.size (w.alloc (.cells c1 t1)) ((w.alloc (.cells c1 t1)).alloc (.cells c2 t2)) := (Below.refl _ _).alloc (Nat.le_refl _) _
    rw [hb1.block w.heap.size (by rw [z]; omega)]
    exact new_block _ _ _
  exact ⟨fun i => by rw [hb.cell (p := ⟨w.heap.size, i, none⟩) (by show w.heap.size < _; omega)]; exact cell_at h1 i,
    fun i => by rw [hb.cell (p := ⟨w.heap.size + 1, i, none⟩) (by show w.heap.size + 1 < _; omega)]; exact cell_at h2 i⟩
theorem ask_pos {a : AskL} {b : List UInt8} (h : askS a = some b) : 0 < b.length := by
  obtain ⟨_, h2, _, _⟩ := ask_packed h
  rw [h2]
  show 0 < (be4 _ ++ _).length
  simp [be4]
theorem rep_pos {r : RepL} {b : List UInt8} (h : repS r = some b) : 0 < b.length := by
  obtain ⟨_, h2, _, _⟩ := rep_packed h
  rw [h2]
  show 0 < (be4 _ ++ _).length
  simp [be4]

set_option maxHeartbeats 8000000 in
set_option maxRecDepth 1000000 in
theorem cuts_walk (a : AskL) (r : RepL) (p : Option Addr) (cap cut : Nat) (W0 : World) (hp : Recs W0 p r.ls) (hl : r.ls.length ≤ 9223372036854775807) (hc16 : cut < 65536) :
    Calls Try.prog 4 #[askV a, repV r p cap, .int .u16 cut] W0 fun e w' => e = .returned (.bool true) ∧ Below W0.heap.size W0 w' := by
  have C0 := Lib.hid (fun w => awake_yes w)
  have CSA := Lib.hid (fun w => smallAsk_any a w)
  have CSR := Lib.hid (fun w h => smallReply_any r p cap w hl h)
  have CAK := Lib.hid (fun w => ask_any a w)
  have CRP := Lib.hid (fun w h1 h => reply_any r p cap w h1 h)
  have HPA := Lib.hid (fun b (h : askS a = some b) => And.intro (ask_pos h) (ask_packed h).2.2.1)
  have HPR := Lib.hid (fun b (h : repS r = some b) => And.intro (rep_pos h) (rep_packed h).2.2.1)
  have HQA := Lib.hid (show ∀ b, askS a = some b → (∀ k, k < b.length → rdAskE (b.take k) = 7) ∧ (b.length < 32768 → rdAskE (b ++ [0]) = 5) from fun b h => ⟨fun k hk => ask_cut h k hk, ask_more h⟩)
  have HQR := Lib.hid (show ∀ b, repS r = some b → (∀ k, k < b.length → rdRepE (b.take k) = 7) ∧ (b.length < 32768 → rdRepE (b ++ [0]) = 5) from fun b h => ⟨fun k hk => rep_cut h k hk, rep_more h⟩)
  obtain ⟨SA, hSA⟩ : ∃ S, askS a = S := ⟨_, rfl⟩
  obtain ⟨SR, hSR⟩ : ∃ S, repS r = S := ⟨_, rfl⟩
  rw [hSA] at CAK HPA HQA
  rw [hSR] at CRP HPR HQR
  clear hSA hSR
  obtain ⟨a0, a1, a2, a3, a4, a5, a6, a7⟩ := a
  obtain ⟨r0, r1, r2, r3, r4, ls, r6, r7⟩ := r
  unfold askV at CSA CAK ⊢
  unfold repV at CSR CRP ⊢
  simp only at CSA CAK CSR CRP hp hl ⊢
  have HP := Lib.hid hp
  obtain ⟨n, hN⟩ : ∃ n, ls.length = n := ⟨_, rfl⟩
  rw [hN] at CSR CRP ⊢
  have h16 : (cut : Int) ≤ 65535 := by omega
  clear hp hl hN hc16
  go_enter Try.func4, Try.ntmps4
  go_wp2_with fail
  obtain ⟨W, hW⟩ : ∃ W, (W0.alloc (.cells #[.int .i64 a0, .int .i64 a1, .int .i64 a2, .string (strB a3), .string (strB a4), .string (strB a5), .string (strB a6), .int .i64 a7] 34)).alloc (.cells #[.int .i64 r0, .int .i64 r1, .int .i64 r2, .bool r3, .string (strB r4), .slice p n cap, .string (strB r6), .bool r7] 37) = W := ⟨_, rfl⟩
  rw [hW]
  have HZ := Lib.hid (show W.heap.size = W0.heap.size + 2 by rw [← hW]; simp)
  have HC := Lib.hid (show ∀ wr, Below W.heap.size W wr → (∀ i, wr.cell? ⟨W0.heap.size, i, none⟩ = _) ∧ (∀ i, wr.cell? ⟨W0.heap.size + 1, i, none⟩ = _) from fun wr hb => two_boxes (w := W0) (wr := wr) (by rw [hW, ← HZ.out]; exact hb))
  have HBW := Lib.hid (show Below W0.heap.size W0 W by rw [← hW]; exact ((Below.refl _ _).alloc (Nat.le_refl _) _).alloc (by simp) _)
  clear hW
  refine (C0.out W).mono ?_
  rintro e w1 ⟨rfl, hb1⟩
  have HB1 := Lib.hid hb1
  clear hb1
  have c0 := (HC.out w1 HB1.out).1 0
  have c1 := (HC.out w1 HB1.out).1 1
  have c2 := (HC.out w1 HB1.out).1 2
  have c3 := (HC.out w1 HB1.out).1 3
  have c4 := (HC.out w1 HB1.out).1 4
  have c5 := (HC.out w1 HB1.out).1 5
  have c6 := (HC.out w1 HB1.out).1 6
  have c7 := (HC.out w1 HB1.out).1 7
  go_wp2_with fail
  refine (CSA.out w1).mono ?_
  rintro e w2 ⟨sa, rfl, hb2⟩
  have HB2 := Lib.hid (HB1.out.trans (hb2.mono HB1.out.size))
  clear hb2 c0 c1 c2 c3 c4 c5 c6 c7
  cases sa with
  | false =>
    go_wp2_with fail
    go_ret
    exact ⟨rfl, HBW.out.trans (HB2.out.mono HBW.out.size)⟩
  | true =>
    have c0 := (HC.out w2 HB2.out).2 0
    have c1 := (HC.out w2 HB2.out).2 1
    have c2 := (HC.out w2 HB2.out).2 2
    have c3 := (HC.out w2 HB2.out).2 3
    have c4 := (HC.out w2 HB2.out).2 4
    have c5 := (HC.out w2 HB2.out).2 5
    have c6 := (HC.out w2 HB2.out).2 6
    have c7 := (HC.out w2 HB2.out).2 7
    go_wp2_with fail
    refine (CSR.out w2 (HP.out.below (HBW.out.trans (HB2.out.mono HBW.out.size)))).mono ?_
    rintro e w3 ⟨sr, rfl, hsm, hb3⟩
    have HB3 := Lib.hid (HB2.out.trans (hb3.mono HB2.out.size))
    clear hb3 c0 c1 c2 c3 c4 c5 c6 c7
    cases sr with
    | false =>
      clear hsm
      go_wp2_with fail
      go_ret
      exact ⟨rfl, HBW.out.trans (HB3.out.mono HBW.out.size)⟩
    | true =>
      have HSM := Lib.hid (hsm rfl)
      clear hsm
      have c0 := (HC.out w3 HB3.out).1 0
      have c1 := (HC.out w3 HB3.out).1 1
      have c2 := (HC.out w3 HB3.out).1 2
      have c3 := (HC.out w3 HB3.out).1 3
      have c4 := (HC.out w3 HB3.out).1 4
      have c5 := (HC.out w3 HB3.out).1 5
      have c6 := (HC.out w3 HB3.out).1 6
      have c7 := (HC.out w3 HB3.out).1 7
      go_wp2_with fail
      refine (CAK.out w3).mono ?_
      rintro e w4 ⟨v4, rfl, hown4, hb4⟩
      obtain ⟨q4, d4, rfl, -, -, -⟩ := own_row hown4
      rw [nums_length] at hown4 ⊢
      have HB4 := Lib.hid (HB3.out.trans (hb4.mono HB3.out.size))
      have HO4 := Lib.hid (own_low hown4 HB3.out.size)
      clear hb4 hown4 c0 c1 c2 c3 c4 c5 c6 c7
      have c0 := (HC.out w4 HB4.out).2 0
      have c1 := (HC.out w4 HB4.out).2 1
      have c2 := (HC.out w4 HB4.out).2 2
      have c3 := (HC.out w4 HB4.out).2 3
      have c4 := (HC.out w4 HB4.out).2 4
      have c5 := (HC.out w4 HB4.out).2 5
      have c6 := (HC.out w4 HB4.out).2 6
      have c7 := (HC.out w4 HB4.out).2 7
      obtain ⟨N, hN⟩ : ∃ N, (SA.getD []).length = N := ⟨_, rfl⟩
      rw [hN] at HO4 ⊢
      have HNN := Lib.hid hN
      obtain ⟨EA, hEA⟩ : ∃ E, errP SA = E := ⟨_, rfl⟩
      rw [hEA]
      clear hN
      go_wp2_with fail
      refine (CRP.out w4 (by have := HSM.out; omega) (HP.out.below (HBW.out.trans (HB4.out.mono HBW.out.size)))).mono ?_
      rintro e w5 ⟨v5, rfl, hown5, hb5⟩
      obtain ⟨q5, d5, rfl, -, -, -⟩ := own_row hown5
      rw [nums_length] at hown5 ⊢
      have HB5 := Lib.hid (HB4.out.trans (hb5.mono HB4.out.size))
      have HO5 := Lib.hid (own_low hown5 HB4.out.size)
      have HO45 := Lib.hid (below_own HO4.out hb5)
      clear hb5 hown5 c0 c1 c2 c3 c4 c5 c6 c7 HO4
      obtain ⟨M, hM⟩ : ∃ M, (SR.getD []).length = M := ⟨_, rfl⟩
      rw [hM] at HO5 ⊢
      have HMM := Lib.hid hM
      clear hM
      cases SR with
      | none =>
        rw [show errP (none : Option (List UInt8)) = 1 from rfl]
        cases SA with
        | none =>
          obtain rfl : EA = 1 := hEA.symm
          go_wp2_with fail
          go_ret
          exact ⟨rfl, HBW.out.trans ((HB5.out.trans ((Below.refl w5.heap.size w5).mono HB5.out.size)).mono HBW.out.size)⟩
        | some bA =>
          have HLA := Lib.hid (show bA.length = N ∧ 0 < N ∧ N ≤ 32768 from ⟨HNN.out, by have := HPA.out bA rfl; have h2 := HNN.out; simp only [Option.getD_some] at h2; omega⟩)
          have HSA := Lib.hid (HQA.out bA rfl)
          obtain rfl : EA = 0 := hEA.symm
          obtain ⟨ga, rfl⟩ := own_some HO45.out (by have h1 := HLA.out.1; have h2 := HLA.out.2.1; intro h0; have h3 := congrArg List.length h0; rw [nums_length] at h3; simp only [Option.getD_some, List.length_nil] at h3; omega)
          obtain ⟨Ka, hKa⟩ : ∃ K, cut % N = K := ⟨_, rfl⟩
          have hKza : (cut : Int) % (N : Int) = (Ka : Int) := by rw [← hKa]; simp
          have hKNa : Ka < N := by rw [← hKa]; exact Nat.mod_lt cut (by have := HLA.out.2.1; omega)
          have hNpa : (0 : Int) < (N : Int) := by have := HLA.out.2.1; omega
          have hNqa : 0 < N := HLA.out.2.1
          have hNba : (N : Int) ≤ 32768 := by have := HLA.out.2.2; omega
          have hKNza : (Ka : Int) < (N : Int) := by omega
          have hNda : (N : Int) ≤ (d4 : Int) := by
            obtain ⟨_, _, he, hd, _⟩ := own_row HO45.out
            injection he with _ h2 h3
            rw [nums_length] at hd
            have e1 := HLA.out.1
            simp only [Option.getD_some] at hd
            omega
          have CXa := Lib.hid (show ∀ wx, Below w5.heap.size w5 wx → Calls Try.prog 16 #[.slice (some ⟨ga, 0, none⟩) (Ka : Nat) d4] wx (RetRA wx (bA.take Ka)) from fun wx hbx => by
            have hrow := (own_in (below_own HO45.out hbx)).1
            have := readAsk_any (bA.take Ka) (some ⟨ga, 0, none⟩) d4 wx (row_take hrow Ka)
            rwa [List.length_take, HLA.out.1, Nat.min_eq_left (by omega)] at this)
          obtain ⟨Ea, hEa⟩ : ∃ E, rdAskE (bA ++ [0]) = E := ⟨_, rfl⟩
          have HEa := Lib.hid (show rdAskE (bA.take Ka) = 7 ∧ (N < 32768 → Ea = 5) ∧ rdAskE (bA ++ [0]) = Ea from ⟨HSA.out.1 Ka (by rw [HLA.out.1]; exact hKNa), (fun h => by rw [← hEa]; exact HSA.out.2 (by rw [HLA.out.1]; exact h)), hEa⟩)
          clear hKa hKNa hEa
          go_wp2_with fail
          refine (CXa.out _ (Below.refl _ _)).mono ?_
          rintro e wua ⟨⟨z0ap, z1ap, z2ap, z3ap, z4ap, z5ap, z6ap, z7ap⟩, rfl, -, hbap⟩
          rw [HEa.out.1]
          unfold askV
          simp only
          have HBa1 := Lib.hid (show Below w5.heap.size w5 wua from hbap)
          have HOa1 := Lib.hid (below_own HO45.out HBa1.out)
          clear hbap CXa
          go_wp2_with (at_builtin; refine wpList_own_row rfl _ _ 25 rfl 5 .u8 1 Try.underlying25 info_byte (by decide) w5.heap.size _ [] rfl (own_empty9 _ _ _ _ HBa1.out.size) (some ⟨ga, 0, none⟩) d4 (nums bA) (by rw [nums_length, HLA.out.1]; rfl) (own_in (HOa1.out.alloc _ |>.alloc _)).1 (own_in HOa1.out).2 (by rw [nums_length, HLA.out.1]; have := HLA.out.2.2; simp; omega) (by have := HBa1.out.size; simp; omega) ?_)
          intro va2 wa2 howna2 hgrowa2
          have HBa2 := Lib.hid (((HBa1.out.alloc HBa1.out.size _).alloc (by have := HBa1.out.size; simp; omega) _).grown hgrowa2 (by have := HBa1.out.size; simp; omega) (fun g hg => by have := HBa1.out.size; injection hg with hg; subst hg; simp; omega))
          have HOa2 := Lib.hid (show Own wa2 w5.heap.size 5 .u8 va2 (nums bA) from howna2)
          clear howna2 hgrowa2
          go_wp2_with (at_builtin; refine wpList_own_push rfl _ _ 25 rfl 5 .u8 1 Try.underlying25 info_byte (by decide) w5.heap.size _ _ rfl (HOa2.out.alloc _) wa2.heap.size 1 1 [0] rfl rfl ?newCellsa (by rw [nums_length, HLA.out.1]; have := HLA.out.2.2; omega) (by have := HBa2.out.size; simp; omega) ?_)
          case newCellsa =>
            intro j hj
            obtain rfl : j = 0 := by omega
            simp
          intro va3 wa3 howna3 hgrowa3
          have HBa3 := Lib.hid ((HBa2.out.alloc HBa2.out.size _).grown hgrowa3 (by have := HBa2.out.size; simp; omega) (fun g hg => HOa2.out.lt g hg))
          have howna4 : Own wa3 w5.heap.size 5 .u8 va3 (nums (bA ++ [0])) := by rw [nums_append]; exact howna3
          obtain ⟨qa3, da3, rfl, hda3, -, hrowa3⟩ := own_row howna4
          have hla3 : (nums (bA ++ [0])).length = N + 1 := by rw [nums_length, List.length_append, HLA.out.1]; rfl
          have CYa := Lib.hid (show Calls Try.prog 16 #[.slice qa3 (N + 1 : Nat) da3] wa3 (RetRA wa3 (bA ++ [0])) from by
            have := readAsk_any (bA ++ [0]) qa3 da3 wa3 hrowa3
            rwa [← nums_length, hla3] at this)
          rw [hla3]
          clear howna3 hgrowa3 howna4 hda3 hrowa3 hla3
          go_wp2_with fail
          refine CYa.out.mono ?_
          rintro e wya ⟨⟨z0as, z1as, z2as, z3as, z4as, z5as, z6as, z7as⟩, rfl, -, hbas⟩
          rw [HEa.out.2.2]
          unfold askV
          simp only
          have HBa4 := Lib.hid (HBa3.out.trans (hbas.mono HBa3.out.size))
          clear hbas CYa hNba hKNza hNda
          rcases Nat.lt_or_ge N 32768 with hbiga | hbiga
          case' inl =>
            have hlza : decide ((N : Int) < 32768) = true := by simp; omega
            have e5 := HEa.out.2.1 hbiga
            subst e5
            clear hbiga
            go_wp2_with fail
          case' inr =>
            have hlza : decide ((N : Int) < 32768) = false := by simp; omega
            clear hbiga
            go_wp2_with fail
          all_goals
            go_ret
            exact ⟨rfl, HBW.out.trans ((HB5.out.trans ((HBa4.out.alloc HBa4.out.size _).mono HB5.out.size)).mono HBW.out.size)⟩
      | some bR =>
        have HLR := Lib.hid (show bR.length = M ∧ 0 < M ∧ M ≤ 32768 from ⟨HMM.out, by have := HPR.out bR rfl; have h2 := HMM.out; simp only [Option.getD_some] at h2; omega⟩)
        have HSR := Lib.hid (HQR.out bR rfl)
        rw [show errP (some bR) = 0 from rfl]
        obtain ⟨gr, rfl⟩ := own_some HO5.out (by have h1 := HLR.out.1; have h2 := HLR.out.2.1; intro h0; have h3 := congrArg List.length h0; rw [nums_length] at h3; simp only [Option.getD_some, List.length_nil] at h3; omega)
        obtain ⟨Kr, hKr⟩ : ∃ K, cut % M = K := ⟨_, rfl⟩
        have hKzr : (cut : Int) % (M : Int) = (Kr : Int) := by rw [← hKr]; simp
        have hKNr : Kr < M := by rw [← hKr]; exact Nat.mod_lt cut (by have := HLR.out.2.1; omega)
        have hNpr : (0 : Int) < (M : Int) := by have := HLR.out.2.1; omega
        have hNqr : 0 < M := HLR.out.2.1
        have hNbr : (M : Int) ≤ 32768 := by have := HLR.out.2.2; omega
        have hKNzr : (Kr : Int) < (M : Int) := by omega
        have hNdr : (M : Int) ≤ (d5 : Int) := by
          obtain ⟨_, _, he, hd, _⟩ := own_row HO5.out
          injection he with _ h2 h3
          rw [nums_length] at hd
          have e1 := HLR.out.1
          simp only [Option.getD_some] at hd
          omega
        have CXr := Lib.hid (show ∀ wx, Below w5.heap.size w5 wx → Calls Try.prog 17 #[.slice (some ⟨gr, 0, none⟩) (Kr : Nat) d5] wx (RetRR wx (bR.take Kr)) from fun wx hbx => by
          have hrow := (own_in (below_own HO5.out hbx)).1
          have := readReply_any (bR.take Kr) (some ⟨gr, 0, none⟩) d5 wx (row_take hrow Kr)
          rwa [List.length_take, HLR.out.1, Nat.min_eq_left (by omega)] at this)
        obtain ⟨Er, hEr⟩ : ∃ E, rdRepE (bR ++ [0]) = E := ⟨_, rfl⟩
        have HEr := Lib.hid (show rdRepE (bR.take Kr) = 7 ∧ (M < 32768 → Er = 5) ∧ rdRepE (bR ++ [0]) = Er from ⟨HSR.out.1 Kr (by rw [HLR.out.1]; exact hKNr), (fun h => by rw [← hEr]; exact HSR.out.2 (by rw [HLR.out.1]; exact h)), hEr⟩)
        clear hKr hKNr hEr
        cases SA with
        | none =>
          obtain rfl : EA = 1 := hEA.symm
          go_wp2_with fail
          refine (CXr.out _ (by first | exact Below.refl _ _ | exact HBa4.out.alloc HBa4.out.size _)).mono ?_
          rintro e wur ⟨⟨z0rp, z1rp, z2rp, z3rp, z4rp, z5rp, z6rp, z7rp⟩, urp, krp, rfl, -, hbrp⟩
          rw [HEr.out.1]
          unfold repV
          simp only
          have HBr1 := Lib.hid (show Below w5.heap.size w5 wur from (by first | exact hbrp | exact (HBa4.out.alloc HBa4.out.size _).trans (hbrp.mono (HBa4.out.alloc HBa4.out.size _).size)))
          have HOr1 := Lib.hid (below_own HO5.out HBr1.out)
          clear hbrp CXr
          go_wp2_with (at_builtin; refine wpList_own_row rfl _ _ 25 rfl 5 .u8 1 Try.underlying25 info_byte (by decide) w5.heap.size _ [] rfl (own_empty9 _ _ _ _ HBr1.out.size) (some ⟨gr, 0, none⟩) d5 (nums bR) (by rw [nums_length, HLR.out.1]; rfl) (own_in (HOr1.out.alloc _ |>.alloc _)).1 (own_in HOr1.out).2 (by rw [nums_length, HLR.out.1]; have := HLR.out.2.2; simp; omega) (by have := HBr1.out.size; simp; omega) ?_)
          intro vr2 wr2 hownr2 hgrowr2
          have HBr2 := Lib.hid (((HBr1.out.alloc HBr1.out.size _).alloc (by have := HBr1.out.size; simp; omega) _).grown hgrowr2 (by have := HBr1.out.size; simp; omega) (fun g hg => by have := HBr1.out.size; injection hg with hg; subst hg; simp; omega))
          have HOr2 := Lib.hid (show Own wr2 w5.heap.size 5 .u8 vr2 (nums bR) from hownr2)
          clear hownr2 hgrowr2
          go_wp2_with (at_builtin; refine wpList_own_push rfl _ _ 25 rfl 5 .u8 1 Try.underlying25 info_byte (by decide) w5.heap.size _ _ rfl (HOr2.out.alloc _) wr2.heap.size 1 1 [0] rfl rfl ?newCellsr (by rw [nums_length, HLR.out.1]; have := HLR.out.2.2; omega) (by have := HBr2.out.size; simp; omega) ?_)
          case newCellsr =>
            intro j hj
            obtain rfl : j = 0 := by omega
            simp
          intro vr3 wr3 hownr3 hgrowr3
          have HBr3 := Lib.hid ((HBr2.out.alloc HBr2.out.size _).grown hgrowr3 (by have := HBr2.out.size; simp; omega) (fun g hg => HOr2.out.lt g hg))
          have hownr4 : Own wr3 w5.heap.size 5 .u8 vr3 (nums (bR ++ [0])) := by rw [nums_append]; exact hownr3
          obtain ⟨qr3, dr3, rfl, hdr3, -, hrowr3⟩ := own_row hownr4
          have hlr3 : (nums (bR ++ [0])).length = M + 1 := by rw [nums_length, List.length_append, HLR.out.1]; rfl
          have CYr := Lib.hid (show Calls Try.prog 17 #[.slice qr3 (M + 1 : Nat) dr3] wr3 (RetRR wr3 (bR ++ [0])) from by
            have := readReply_any (bR ++ [0]) qr3 dr3 wr3 hrowr3
            rwa [← nums_length, hlr3] at this)
          rw [hlr3]
          clear hownr3 hgrowr3 hownr4 hdr3 hrowr3 hlr3
          go_wp2_with fail
          refine CYr.out.mono ?_
          rintro e wyr ⟨⟨z0rs, z1rs, z2rs, z3rs, z4rs, z5rs, z6rs, z7rs⟩, urs, krs, rfl, -, hbrs⟩
          rw [HEr.out.2.2]
          unfold repV
          simp only
          have HBr4 := Lib.hid (HBr3.out.trans (hbrs.mono HBr3.out.size))
          clear hbrs CYr hNbr hKNzr hNdr
          rcases Nat.lt_or_ge M 32768 with hbigr | hbigr
          case' inl =>
            have hlzr : decide ((M : Int) < 32768) = true := by simp; omega
            have e5 := HEr.out.2.1 hbigr
            subst e5
            clear hbigr
            go_wp2_with fail
          case' inr =>
            have hlzr : decide ((M : Int) < 32768) = false := by simp; omega
            clear hbigr
            go_wp2_with fail
          all_goals
            go_ret
            exact ⟨rfl, HBW.out.trans ((HB5.out.trans ((HBr4.out.alloc HBr4.out.size _).mono HB5.out.size)).mono HBW.out.size)⟩
        | some bA =>
          have HLA := Lib.hid (show bA.length = N ∧ 0 < N ∧ N ≤ 32768 from ⟨HNN.out, by have := HPA.out bA rfl; have h2 := HNN.out; simp only [Option.getD_some] at h2; omega⟩)
          have HSA := Lib.hid (HQA.out bA rfl)
          obtain rfl : EA = 0 := hEA.symm
          obtain ⟨ga, rfl⟩ := own_some HO45.out (by have h1 := HLA.out.1; have h2 := HLA.out.2.1; intro h0; have h3 := congrArg List.length h0; rw [nums_length] at h3; simp only [Option.getD_some, List.length_nil] at h3; omega)
          obtain ⟨Ka, hKa⟩ : ∃ K, cut % N = K := ⟨_, rfl⟩
          have hKza : (cut : Int) % (N : Int) = (Ka : Int) := by rw [← hKa]; simp
          have hKNa : Ka < N := by rw [← hKa]; exact Nat.mod_lt cut (by have := HLA.out.2.1; omega)
          have hNpa : (0 : Int) < (N : Int) := by have := HLA.out.2.1; omega
          have hNqa : 0 < N := HLA.out.2.1
          have hNba : (N : Int) ≤ 32768 := by have := HLA.out.2.2; omega
          have hKNza : (Ka : Int) < (N : Int) := by omega
          have hNda : (N : Int) ≤ (d4 : Int) := by
            obtain ⟨_, _, he, hd, _⟩ := own_row HO45.out
            injection he with _ h2 h3
            rw [nums_length] at hd
            have e1 := HLA.out.1
            simp only [Option.getD_some] at hd
            omega
          have CXa := Lib.hid (show ∀ wx, Below w5.heap.size w5 wx → Calls Try.prog 16 #[.slice (some ⟨ga, 0, none⟩) (Ka : Nat) d4] wx (RetRA wx (bA.take Ka)) from fun wx hbx => by
            have hrow := (own_in (below_own HO45.out hbx)).1
            have := readAsk_any (bA.take Ka) (some ⟨ga, 0, none⟩) d4 wx (row_take hrow Ka)
            rwa [List.length_take, HLA.out.1, Nat.min_eq_left (by omega)] at this)
          obtain ⟨Ea, hEa⟩ : ∃ E, rdAskE (bA ++ [0]) = E := ⟨_, rfl⟩
          have HEa := Lib.hid (show rdAskE (bA.take Ka) = 7 ∧ (N < 32768 → Ea = 5) ∧ rdAskE (bA ++ [0]) = Ea from ⟨HSA.out.1 Ka (by rw [HLA.out.1]; exact hKNa), (fun h => by rw [← hEa]; exact HSA.out.2 (by rw [HLA.out.1]; exact h)), hEa⟩)
          clear hKa hKNa hEa
          go_wp2_with fail
          refine (CXa.out _ (Below.refl _ _)).mono ?_
          rintro e wua ⟨⟨z0ap, z1ap, z2ap, z3ap, z4ap, z5ap, z6ap, z7ap⟩, rfl, -, hbap⟩
          rw [HEa.out.1]
          unfold askV
          simp only
          have HBa1 := Lib.hid (show Below w5.heap.size w5 wua from hbap)
          have HOa1 := Lib.hid (below_own HO45.out HBa1.out)
          clear hbap CXa
          go_wp2_with (at_builtin; refine wpList_own_row rfl _ _ 25 rfl 5 .u8 1 Try.underlying25 info_byte (by decide) w5.heap.size _ [] rfl (own_empty9 _ _ _ _ HBa1.out.size) (some ⟨ga, 0, none⟩) d4 (nums bA) (by rw [nums_length, HLA.out.1]; rfl) (own_in (HOa1.out.alloc _ |>.alloc _)).1 (own_in HOa1.out).2 (by rw [nums_length, HLA.out.1]; have := HLA.out.2.2; simp; omega) (by have := HBa1.out.size; simp; omega) ?_)
          intro va2 wa2 howna2 hgrowa2
          have HBa2 := Lib.hid (((HBa1.out.alloc HBa1.out.size _).alloc (by have := HBa1.out.size; simp; omega) _).grown hgrowa2 (by have := HBa1.out.size; simp; omega) (fun g hg => by have := HBa1.out.size; injection hg with hg; subst hg; simp; omega))
          have HOa2 := Lib.hid (show Own wa2 w5.heap.size 5 .u8 va2 (nums bA) from howna2)
          clear howna2 hgrowa2
          go_wp2_with (at_builtin; refine wpList_own_push rfl _ _ 25 rfl 5 .u8 1 Try.underlying25 info_byte (by decide) w5.heap.size _ _ rfl (HOa2.out.alloc _) wa2.heap.size 1 1 [0] rfl rfl ?newCellsa (by rw [nums_length, HLA.out.1]; have := HLA.out.2.2; omega) (by have := HBa2.out.size; simp; omega) ?_)
          case newCellsa =>
            intro j hj
            obtain rfl : j = 0 := by omega
            simp
          intro va3 wa3 howna3 hgrowa3
          have HBa3 := Lib.hid ((HBa2.out.alloc HBa2.out.size _).grown hgrowa3 (by have := HBa2.out.size; simp; omega) (fun g hg => HOa2.out.lt g hg))
          have howna4 : Own wa3 w5.heap.size 5 .u8 va3 (nums (bA ++ [0])) := by rw [nums_append]; exact howna3
          obtain ⟨qa3, da3, rfl, hda3, -, hrowa3⟩ := own_row howna4
          have hla3 : (nums (bA ++ [0])).length = N + 1 := by rw [nums_length, List.length_append, HLA.out.1]; rfl
          have CYa := Lib.hid (show Calls Try.prog 16 #[.slice qa3 (N + 1 : Nat) da3] wa3 (RetRA wa3 (bA ++ [0])) from by
            have := readAsk_any (bA ++ [0]) qa3 da3 wa3 hrowa3
            rwa [← nums_length, hla3] at this)
          rw [hla3]
          clear howna3 hgrowa3 howna4 hda3 hrowa3 hla3
          go_wp2_with fail
          refine CYa.out.mono ?_
          rintro e wya ⟨⟨z0as, z1as, z2as, z3as, z4as, z5as, z6as, z7as⟩, rfl, -, hbas⟩
          rw [HEa.out.2.2]
          unfold askV
          simp only
          have HBa4 := Lib.hid (HBa3.out.trans (hbas.mono HBa3.out.size))
          clear hbas CYa hNba hKNza hNda
          rcases Nat.lt_or_ge N 32768 with hbiga | hbiga
          case' inl =>
            have hlza : decide ((N : Int) < 32768) = true := by simp; omega
            have e5 := HEa.out.2.1 hbiga
            subst e5
            clear hbiga
            go_wp2_with fail
          case' inr =>
            have hlza : decide ((N : Int) < 32768) = false := by simp; omega
            clear hbiga
            go_wp2_with fail
          all_goals
            go_wp2_with fail
            refine (CXr.out _ (by first | exact Below.refl _ _ | exact HBa4.out.alloc HBa4.out.size _)).mono ?_
            rintro e wur ⟨⟨z0rp, z1rp, z2rp, z3rp, z4rp, z5rp, z6rp, z7rp⟩, urp, krp, rfl, -, hbrp⟩
            rw [HEr.out.1]
            unfold repV
            simp only
            have HBr1 := Lib.hid (show Below w5.heap.size w5 wur from (by first | exact hbrp | exact (HBa4.out.alloc HBa4.out.size _).trans (hbrp.mono (HBa4.out.alloc HBa4.out.size _).size)))
            have HOr1 := Lib.hid (below_own HO5.out HBr1.out)
            clear hbrp CXr
            go_wp2_with (at_builtin; refine wpList_own_row rfl _ _ 25 rfl 5 .u8 1 Try.underlying25 info_byte (by decide) w5.heap.size _ [] rfl (own_empty9 _ _ _ _ HBr1.out.size) (some ⟨gr, 0, none⟩) d5 (nums bR) (by rw [nums_length, HLR.out.1]; rfl) (own_in (HOr1.out.alloc _ |>.alloc _)).1 (own_in HOr1.out).2 (by rw [nums_length, HLR.out.1]; have := HLR.out.2.2; simp; omega) (by have := HBr1.out.size; simp; omega) ?_)
            intro vr2 wr2 hownr2 hgrowr2
            have HBr2 := Lib.hid (((HBr1.out.alloc HBr1.out.size _).alloc (by have := HBr1.out.size; simp; omega) _).grown hgrowr2 (by have := HBr1.out.size; simp; omega) (fun g hg => by have := HBr1.out.size; injection hg with hg; subst hg; simp; omega))
            have HOr2 := Lib.hid (show Own wr2 w5.heap.size 5 .u8 vr2 (nums bR) from hownr2)
            clear hownr2 hgrowr2
            go_wp2_with (at_builtin; refine wpList_own_push rfl _ _ 25 rfl 5 .u8 1 Try.underlying25 info_byte (by decide) w5.heap.size _ _ rfl (HOr2.out.alloc _) wr2.heap.size 1 1 [0] rfl rfl ?newCellsr (by rw [nums_length, HLR.out.1]; have := HLR.out.2.2; omega) (by have := HBr2.out.size; simp; omega) ?_)
            case newCellsr =>
              intro j hj
              obtain rfl : j = 0 := by omega
              simp
            intro vr3 wr3 hownr3 hgrowr3
            have HBr3 := Lib.hid ((HBr2.out.alloc HBr2.out.size _).grown hgrowr3 (by have := HBr2.out.size; simp; omega) (fun g hg => HOr2.out.lt g hg))
            have hownr4 : Own wr3 w5.heap.size 5 .u8 vr3 (nums (bR ++ [0])) := by rw [nums_append]; exact hownr3
            obtain ⟨qr3, dr3, rfl, hdr3, -, hrowr3⟩ := own_row hownr4
            have hlr3 : (nums (bR ++ [0])).length = M + 1 := by rw [nums_length, List.length_append, HLR.out.1]; rfl
            have CYr := Lib.hid (show Calls Try.prog 17 #[.slice qr3 (M + 1 : Nat) dr3] wr3 (RetRR wr3 (bR ++ [0])) from by
              have := readReply_any (bR ++ [0]) qr3 dr3 wr3 hrowr3
              rwa [← nums_length, hlr3] at this)
            rw [hlr3]
            clear hownr3 hgrowr3 hownr4 hdr3 hrowr3 hlr3
            go_wp2_with fail
            refine CYr.out.mono ?_
            rintro e wyr ⟨⟨z0rs, z1rs, z2rs, z3rs, z4rs, z5rs, z6rs, z7rs⟩, urs, krs, rfl, -, hbrs⟩
            rw [HEr.out.2.2]
            unfold repV
            simp only
            have HBr4 := Lib.hid (HBr3.out.trans (hbrs.mono HBr3.out.size))
            clear hbrs CYr hNbr hKNzr hNdr
            rcases Nat.lt_or_ge M 32768 with hbigr | hbigr
            case' inl =>
              have hlzr : decide ((M : Int) < 32768) = true := by simp; omega
              have e5 := HEr.out.2.1 hbigr
              subst e5
              clear hbigr
              go_wp2_with fail
            case' inr =>
              have hlzr : decide ((M : Int) < 32768) = false := by simp; omega
              clear hbigr
              go_wp2_with fail
            all_goals
              go_ret
              exact ⟨rfl, HBW.out.trans ((HB5.out.trans ((HBr4.out.alloc HBr4.out.size _).mono HB5.out.size)).mono HBW.out.size)⟩
theorem cuts_int (a : AskL) (r : RepL) (p : Option Addr) (cap : Nat) (z : Int) (hz : ∃ k : Nat, k < 65536 ∧ z = k) (W0 : World) (hp : Recs W0 p r.ls) (hl : r.ls.length ≤ 9223372036854775807) :
    Calls Try.prog 4 #[askV a, repV r p cap, .int .u16 z] W0 fun e w' => e = .returned (.bool true) ∧ Below W0.heap.size W0 w' := by
  obtain ⟨k, hk, rfl⟩ := hz
  exact cuts_walk a r p cap k W0 hp hl hk
end Go.Proofs.Ytkidahlhnhglfaa
