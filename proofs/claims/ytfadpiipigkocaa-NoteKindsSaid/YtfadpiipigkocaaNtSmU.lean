/-
  Layer note, the law's: Small, with all that it sums.
-/
import Derived.Test.YtfadpiipigkocaaMg25
namespace Go.Proofs.Ytfadpiipigkocaa
open Go.RowKit Go.Gz

def RpOk (r : RepL) : Prop := r.ls.length ≤ 300 ∧ wrap64 (lenR r : Nat) ≤ 50000
/-- a note's replies are short, as far as sums do not wrap. -/
structure NtRpl (n : NtL) : Prop where
  rep : wrap64 (lenR n.rep : Nat) ≤ 50000
  la : ∀ e ∈ n.la, wrap64 (lenR e.r : Nat) ≤ 50000
def RetSmU (w : World) (n : NtL) (e : Ending) (w' : World) : Prop := ∃ b, e = .returned (.bool b) ∧ (b = true → NtFew n ∧ NtLit n ∧ NtRpl n) ∧ Below w.heap.size w w'
set_option maxHeartbeats 16000000 in
set_option maxRecDepth 100000 in
theorem smallU_any (n : NtL) (P : NtP) (w : World) (hin : NtAg w n P) : Calls Try.prog 5 #[ntV n P] w (RetSmU w n) := by
  have HIN := Lib.hid hin
  obtain ⟨c, hc⟩ : ∃ c, (ntList n P).toArray = c := ⟨_, rfl⟩
  unfold ntV
  rw [hc]
  have A8 := Lib.hid (show c[8]? = some (.string (strB n.ask.t)) by rw [← hc]; rfl)
  have A9 := Lib.hid (show c[9]? = some (.string (strB n.ask.v)) by rw [← hc]; rfl)
  have A10 := Lib.hid (show c[10]? = some (.string (strB n.ask.f)) by rw [← hc]; rfl)
  have A11 := Lib.hid (show c[11]? = some (.string (strB n.ask.u)) by rw [← hc]; rfl)
  have A13 := Lib.hid (show c[13]? = some (.int .i64 n.rep.c) by rw [← hc]; rfl)
  have A14 := Lib.hid (show c[14]? = some (.int .i64 n.rep.s) by rw [← hc]; rfl)
  have A15 := Lib.hid (show c[15]? = some (.int .i64 n.rep.e) by rw [← hc]; rfl)
  have A16 := Lib.hid (show c[16]? = some (.bool n.rep.fd) by rw [← hc]; rfl)
  have A17 := Lib.hid (show c[17]? = some (.string (strB n.rep.v)) by rw [← hc]; rfl)
  have A18 := Lib.hid (show c[18]? = some (.slice P.rp n.rep.ls.length P.rk) by rw [← hc]; rfl)
  have A19 := Lib.hid (show c[19]? = some (.string (strB n.rep.nx)) by rw [← hc]; rfl)
  have A20 := Lib.hid (show c[20]? = some (.bool n.rep.mr) by rw [← hc]; rfl)
  have A21 := Lib.hid (show c[21]? = some (.string (strB n.sf)) by rw [← hc]; rfl)
  have A22 := Lib.hid (show c[22]? = some (.string (strB n.st)) by rw [← hc]; rfl)
  have A23 := Lib.hid (show c[23]? = some (.slice P.lp n.ls.length P.lk) by rw [← hc]; rfl)
  have A24 := Lib.hid (show c[24]? = some (.slice P.ap n.la.length P.ak) by rw [← hc]; rfl)
  have A25 := Lib.hid (show c[25]? = some (.int .i64 n.ae) by rw [← hc]; rfl)
  have A26 := Lib.hid (show c[26]? = some (.slice P.hp n.sh.length P.hk) by rw [← hc]; rfl)
  obtain ⟨W, hW⟩ : ∃ W, w.alloc (.cells c 35) = W := ⟨_, rfl⟩
  have HC := Lib.hid (show ∀ wr, Below W.heap.size W wr → ∀ i, wr.cell? ⟨w.heap.size, i, none⟩ = c[i]? from fun wr hb i => nt_box hW hb i)
  have HBW := Lib.hid (show Below w.heap.size w W from hW ▸ (Below.refl _ _).alloc (Nat.le_refl _) _)
  have HW := Lib.hid hW
  have HF := Lib.hid (show ∀ b : Bool, (b = true → NtFew n ∧ NtLit n ∧ NtRpl n) → ∀ w', Below W.heap.size W w' → RetSmU w n (.returned (.bool b)) w' from fun b h w' hb => ⟨b, rfl, h, HBW.out.trans (hb.mono HBW.out.size)⟩)
  obtain ⟨N, hN⟩ : ∃ N, n.ls.length = N := ⟨_, rfl⟩
  obtain ⟨M, hM⟩ : ∃ M, n.la.length = M := ⟨_, rfl⟩
  have HN := Lib.hid hN
  have HM := Lib.hid hM
  have hNz : (N : Int) ≤ 9223372036854775807 := by have := hin.ll; omega
  have hMz : (M : Int) ≤ 9223372036854775807 := by have := hin.al; omega
  rw [hN] at A23
  rw [hM] at A24
  clear hc hW hN hM hin
  go_enter Try.func5, Try.ntmps5
  go_upto_region 1 with fail
  rw [HW.out]
  have c8 := (HC.out W (Below.refl _ _) 8).trans A8.out
  have c9 := (HC.out W (Below.refl _ _) 9).trans A9.out
  have c10 := (HC.out W (Below.refl _ _) 10).trans A10.out
  have c11 := (HC.out W (Below.refl _ _) 11).trans A11.out
  have c21 := (HC.out W (Below.refl _ _) 21).trans A21.out
  have c22 := (HC.out W (Below.refl _ _) 22).trans A22.out
  go_wp2_with fail
  clear c8 c9 c10 c11 c21 c22
  obtain ⟨T6, hT6⟩ : ∃ T6, (strB n.ask.t).size + (strB n.ask.v).size + (strB n.ask.f).size + (strB n.ask.u).size + (strB n.sf).size + (strB n.st).size = T6 := ⟨_, rfl⟩
  have HT6 := Lib.hid hT6
  have HST6 := Lib.hid (wrap_six (strB n.ask.t).size (strB n.ask.v).size (strB n.ask.f).size (strB n.ask.u).size (strB n.sf).size (strB n.st).size)
  rw [hT6] at HST6
  clear hT6
  go_loopw [3, 4] (fun x i wr => ∃ (k : Nat) (z : Int), k ≤ N ∧ i = .int .i64 k ∧ x = .int .i64 z ∧ Hid (z = wrap64 ((T6 + sumZ szL (n.ls.take k) : Nat) : Int)) ∧ Hid (Below W.heap.size W wr)) (fun _ i _ => N - (RowKit.intOf i).toNat)
  case atStart => exact ⟨0, _, Nat.zero_le _, rfl, rfl, HST6, Lib.hid (Below.refl _ _)⟩
  case round =>
    obtain ⟨k, z, hk, rfl, rfl, HZ, HB⟩ := hrel
    have c23 := (HC.out _ HB.out 23).trans A23.out
    by_cases hlt : k < N
    · have hltz : (k : Int) < (N : Int) := by omega
      obtain ⟨b, o, hpe, hbl, r1, r2⟩ := rec_cell HIN.out.ls (HBW.out.trans (HB.out.mono HBW.out.size)) (show k < n.ls.length by rw [HN.out]; exact hlt)
      rw [hpe] at c23
      obtain ⟨s1, hs1⟩ : ∃ s, strB (n.ls.getD k ([], [])).1 = s := ⟨_, rfl⟩
      obtain ⟨s2, hs2⟩ : ∃ s, strB (n.ls.getD k ([], [])).2 = s := ⟨_, rfl⟩
      have HSU := Lib.hid (show wrap64 (wrap64 (z + s1.size) + s2.size) = wrap64 ((T6 + sumZ szL (n.ls.take (k + 1)) : Nat) : Int) from by
        rw [HZ.out, sumZ_succD ([], []) szL n.ls k (by rw [HN.out]; exact hlt)]
        have e : szL (n.ls.getD k ([], [])) = s1.size + s2.size := by rw [← hs1, ← hs2, strB_size, strB_size]; rfl
        rw [e, ← Nat.add_assoc]
        exact wrap_two _ _ _)
      rw [hs1] at r1
      rw [hs2] at r2
      clear hs1 hs2
      go_upto_region 5 with fail
      go_quiet (fail)
      go_wp2_with fail
      go_roundw
      case rel => exact ⟨k + 1, _, by omega, by go_num, rfl, HSU, Lib.hid (below_drewN HB.out _)⟩
      case measure => simp [RowKit.intOf]; omega
    · obtain rfl : k = N := by omega
      have hltz : ¬ (k : Int) < (k : Int) := by omega
      have HZE := Lib.hid (show z = wrap64 (txtN n) by
        have := HZ.out
        rw [List.take_of_length_le (by rw [HN.out]; exact Nat.le_refl _), ← HT6.out] at this
        exact this)
      go_wp2_with fail
      clear c23
      go_loopw [5] (fun i wr => ∃ j : Nat, i = .int .i64 j ∧ j ≤ M ∧ j ≤ 21 ∧ Hid (∀ e ∈ n.la.take j, RpOk e.r) ∧ Hid (Below W.heap.size W wr)) (fun i _ => M - (RowKit.intOf i).toNat)
      case atStart => exact ⟨0, rfl, Nat.zero_le _, by omega, Lib.hid (by simp), HB⟩
      case round =>
        obtain ⟨j, rfl, hjn, hj1, HT, HB2⟩ := hrel
        have c24 := (HC.out _ HB2.out 24).trans A24.out
        by_cases hjt : j < M
        · have hjz : (j : Int) < (M : Int) := by omega
          have hkx : j < n.la.length := by rw [HM.out]; exact hjt
          obtain ⟨e, he⟩ : ∃ e, n.la.getD j default = e := ⟨_, rfl⟩
          have hie := HIN.out.les e (by rw [← he]; simp [List.getD, hkx])
          obtain ⟨pb, po, hpe, hpb, hce⟩ := rep_cells HIN.out.la (HBW.out.trans (HB2.out.mono HBW.out.size)) hkx
          rw [he] at hce
          rw [hpe] at c24
          have HTK := Lib.hid (show n.la.take (j + 1) = n.la.take j ++ [e] by
            rw [List.take_succ_eq_append_getElem hkx, ← he]
            simp [List.getD, hkx])
          have CS := Lib.hid (smallReplyT_any e.r e.p e.k wr hie.lo (hie.rs.below (HBW.out.trans (HB2.out.mono HBW.out.size))))
          unfold repV at CS
          rcases Nat.lt_or_ge 20 j with h1 | h1
          · have h1z : (20 : Int) < (j : Int) := by omega
            have h1d : decide ((20 : Int) < (j : Int)) = true := decide_eq_true h1z
            have HQ := Lib.hid (HF.out false (fun h => by (cases h)) _ HB2.out)
            clear hce he hie
            go_wp2_with fail
            go_ret
            exact HQ.out
          · have h1z : ¬ (20 : Int) < (j : Int) := by omega
            have h1d : decide ((20 : Int) < (j : Int)) = false := decide_eq_false h1z
            obtain ⟨es, er, ep, ek⟩ := e
            have z0 := hce 0 (by decide)
            have z1 := hce 1 (by decide)
            have z2 := hce 2 (by decide)
            have z3 := hce 3 (by decide)
            have z4 := hce 4 (by decide)
            have z5 := hce 5 (by decide)
            have z6 := hce 6 (by decide)
            have z7 := hce 7 (by decide)
            simp only [Ent.list, Nat.add_zero] at z0 z1 z2 z3 z4 z5 z6 z7
            simp only at CS HTK
            clear hce he hie
            go_wp2_with (go_at_call 13; refine CS.out.mono ?_; rintro e w2 ⟨b, rfl, hb, hbl⟩; have z4' := (hbl.cell (p := ⟨pb, po + j * 8 + 4, none⟩) (by have := HB2.out.size; have := HBW.out.size; show pb < _; omega)).trans z4; have c24' := (hbl.cell (p := ⟨w.heap.size, 24, none⟩) (by have := HB2.out.size; have := (show w.heap.size < W.heap.size by rw [← HW.out]; simp); show w.heap.size < _; omega)).trans c24; have HS := Lib.hid hb; have HB3 := Lib.hid (HB2.out.trans (hbl.mono HB2.out.size)); clear hb hbl; cases b)
            · go_ret
              exact HF.out false (fun h => by cases h) _ HB3.out
            · go_ret
              exact HF.out false (fun h => by cases h) _ HB3.out
            · refine ⟨⟨j + 1, by go_num, hjt, by omega, Lib.hid fun e he => ?_, HB3⟩, by simp [RowKit.intOf]; omega⟩
              rw [HTK.out] at he
              rcases List.mem_append.1 he with he | he
              · exact HT.out e he
              · obtain rfl : e = ⟨es, er, ep, ek⟩ := by simpa using he
                exact HS.out (by first | rfl | trivial | assumption)
        · have hjz : ¬ (j : Int) < (M : Int) := by omega
          have hje : j = M := by omega
          have HAL := Lib.hid (show n.la.length ≤ 21 by rw [HM.out]; omega)
          have HAE := Lib.hid (show ∀ e ∈ n.la, RpOk e.r by
            have := HT.out
            rwa [List.take_of_length_le (by rw [HM.out]; omega)] at this)
          have CA := Lib.hid (smallAS_any _ n.ae n.sh P.hp P.hk (HIN.out.sh.below (HBW.out.trans (HB2.out.mono HBW.out.size))) HIN.out.hl)
          have CR := Lib.hid (fun w1 (h : Below w.heap.size w w1) => smallReplyT_any n.rep P.rp P.rk w1 HIN.out.rl (HIN.out.rs.below h))
          unfold repV at CR
          have c23 := (HC.out _ HB2.out 23).trans A23.out
          have c25 := (HC.out _ HB2.out 25).trans A25.out
          have c26 := (HC.out _ HB2.out 26).trans A26.out
          have HQ0 := Lib.hid (HF.out false (fun h => by (cases h)) _ HB2.out)
          clear HT hje
          by_cases hz : z ≤ 20000
          · have hzd : decide (z ≤ 20000) = true := decide_eq_true hz
            by_cases h100 : (k : Int) ≤ 100
            · have h100d : decide ((k : Int) ≤ 100) = true := decide_eq_true h100
              have HLL := Lib.hid (show n.ls.length ≤ 100 by rw [HN.out]; omega)
              go_wp2_with (first | (go_at_call 14; refine CA.out.mono ?_; rintro e w3 ⟨b, rfl, hb, hbl⟩; have HB3 := Lib.hid (HB2.out.trans (hbl.mono HB2.out.size)); have HS := Lib.hid hb; clear hb hbl c23 c24 c25 c26; have CR2 := Lib.hid (CR.out w3 (HBW.out.trans (HB3.out.mono HBW.out.size))); have c13 := (HC.out w3 HB3.out 13).trans A13.out; have c14 := (HC.out w3 HB3.out 14).trans A14.out; have c15 := (HC.out w3 HB3.out 15).trans A15.out; have c16 := (HC.out w3 HB3.out 16).trans A16.out; have c17 := (HC.out w3 HB3.out 17).trans A17.out; have c18 := (HC.out w3 HB3.out 18).trans A18.out; have c19 := (HC.out w3 HB3.out 19).trans A19.out; have c20 := (HC.out w3 HB3.out 20).trans A20.out; cases b) | (go_at_call 13; refine CR2.out.mono ?_; rintro e w4 ⟨b, rfl, hb, hbl⟩; have HQ4 := Lib.hid (HF.out b (fun h => ⟨⟨(hb h).1, HLL.out, HAL.out, fun e he => (HAE.out e he).1, (HS.out (by first | rfl | trivial | assumption)).1⟩, ⟨by have := HZE.out; omega, (HS.out (by first | rfl | trivial | assumption)).2⟩, ⟨(hb h).2, fun e he => (HAE.out e he).2⟩⟩) _ (HB3.out.trans (hbl.mono HB3.out.size))); clear hb hbl))
              · go_ret
                exact HF.out false (fun h => by cases h) _ HB3.out
              · go_ret
                exact HQ4.out
            · have h100d : decide ((k : Int) ≤ 100) = false := decide_eq_false h100
              go_wp2_with fail
              go_ret
              exact HQ0.out
          · have hzd : decide (z ≤ 20000) = false := decide_eq_false hz
            go_wp2_with fail
            go_ret
            exact HQ0.out
end Go.Proofs.Ytfadpiipigkocaa
