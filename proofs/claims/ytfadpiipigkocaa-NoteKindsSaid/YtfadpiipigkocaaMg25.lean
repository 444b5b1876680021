/-
  Several texts in one: AtSmallS, NtSmallS, NtSmR.
-/
import Derived.Test.YtfadpiipigkocaaMg13
import Derived.Test.YtfadpiipigkocaaMg24
import Derived.Test.YtfadpiipigkocaaMg14
import Derived.Test.YtfadpiipigkocaaMg15
import Derived.Test.YtfadpiipigkocaaMg09
import Derived.BigQuiet
namespace Go.Proofs.Ytfadpiipigkocaa
open Go.RowKit Go.Gz

def RetSmS (w : World) (L : List Sd) (e : Ending) (w' : World) : Prop := ∃ b, e = .returned (.bool b) ∧ (b = true → L.length ≤ 60 ∧ wrap64 (sumZ szS (L.map Sd.sp)) ≤ 3000) ∧ Below w.heap.size w w'
set_option maxHeartbeats 4000000 in
set_option maxRecDepth 100000 in
theorem smallAS_any (w : World) (ep : Int) (L : List Sd) (p : Option Addr) (ca : Nat) (hp : RowK KS w p L) (hL : L.length ≤ 9223372036854775807) :
    Calls Try.prog 14 #[.agg #[.int .i64 ep, .slice p L.length ca]] w (RetSmS w L) := by
  obtain ⟨n, hN⟩ : ∃ n, L.length = n := ⟨_, rfl⟩
  have HN := Lib.hid hN
  rw [hN] at hL ⊢
  obtain ⟨w0, hw0⟩ : ∃ w0, w.alloc (.cells #[.int .i64 ep, .slice p n ca] 33) = w0 := ⟨_, rfl⟩
  have HB0 := Lib.hid (show Below w.heap.size w w0 from hw0 ▸ below_alloc _ _)
  have HBX := Lib.hid (show BoxA w0 w.heap.size ep (.slice p n ca) from hw0 ▸ BoxA.new w _ _ _)
  have HR := Lib.hid (hp.below HB0.out)
  have HF := Lib.hid (show ∀ b : Bool, ∀ w', (b = true → L.length ≤ 60 ∧ wrap64 (sumZ szS (L.map Sd.sp)) ≤ 3000) → Below w0.heap.size w0 w' → RetSmS w L (.returned (.bool b)) w' from fun b w' h1 h2 => ⟨b, rfl, h1, HB0.out.trans (h2.mono HB0.out.size)⟩)
  have HW0 := Lib.hid hw0
  clear hN hp hw0
  go_enter Try.func14, Try.ntmps14
  go_wp2_with fail
  rw [HW0.out]
  go_loopw [3, 4] (fun v i wr => ∃ k : Nat, i = .int .i64 k ∧ k ≤ n ∧ k ≤ 100 ∧ Hid (OwnK KP wr w0.heap.size 29 v ((L.take k).map Sd.sp)) ∧ Hid (Below w0.heap.size w0 wr)) (fun _ i _ => n - (RowKit.intOf i).toNat)
  case atStart => exact ⟨0, rfl, Nat.zero_le _, by omega, Lib.hid (OwnK.nil KP _ _ _), Lib.hid (Below.refl _ _)⟩
  case round =>
    obtain ⟨k, rfl, hkn, hk1, HOW, BW⟩ := hrel
    obtain ⟨hkb, x0, x1⟩ := HBX.out.below BW.out
    rcases Nat.lt_or_ge k n with hk | hk
    · have hkz : (k : Int) < (n : Int) := by omega
      rcases Nat.lt_or_ge k 100 with h1 | h1
      · have h1z : (k : Int) < 100 := by omega
        have hklt : k < L.length := by rw [HN.out]; exact hk
        obtain ⟨e, he⟩ : ∃ e, L.getD k default = e := ⟨_, rfl⟩
        obtain ⟨pb, po, rfl, hpb, hcell⟩ := HR.out.cells BW.out hklt
        rw [he] at hcell
        have HTK := Lib.hid (show (L.take (k + 1)).map Sd.sp = (L.take k).map Sd.sp ++ [e.sp] by
          rw [List.take_succ_eq_append_getElem hklt, ← he, List.map_append]
          simp [List.getD, hklt])
        have HLK := Lib.hid (show ((L.take k).map Sd.sp).length = k by rw [List.length_map, List.length_take]; omega)
        have HON := Lib.hid (RowK.block KP (L := [e.sp]) (alloc_at wr (.cells #[.string e.sp.f, .string e.sp.t] 29)))
        obtain ⟨⟨ef, et⟩, en, ee⟩ := e
        have z0 := hcell 0 (by decide)
        have z1 := hcell 1 (by decide)
        simp only [KS, Nat.add_zero] at z0 z1
        simp only at HON HTK
        clear hcell he
        obtain ⟨q, c, hvq, _⟩ := HOW.out.row
        go_wp2_with (at_builtin; refine wpList_app_k skt_span rfl _ _ rfl rfl (HOW.out.alloc _) (some ⟨wr.heap.size, 0, none⟩) 1 [⟨ef, et⟩] rfl HON.out (fun h => by cases h) (by have := HLK.out; simp only [List.length_cons, List.length_nil]; omega) (by have := BW.out.size; simp; omega) ?_; intro v4 w4 hown4 hgrow4 hat4)
        have HO4 := Lib.hid (show OwnK KP w4 w0.heap.size 29 v4 ((L.take (k + 1)).map Sd.sp) by rw [HTK.out]; exact hown4)
        have HB4 := Lib.hid ((BW.out.alloc BW.out.size _).grown hgrow4 (by have := BW.out.size; simp; omega) (fun g hg => (HOW.out.ltB g hg).1))
        exact ⟨⟨k + 1, by go_num, hk, by omega, HO4, HB4⟩, by simp [RowKit.intOf]; omega⟩
      · have h1z : ¬ (k : Int) < 100 := by omega
        have h60 : ¬ (n : Int) ≤ 60 := by omega
        have HQ := Lib.hid (HF.out false wr (fun h => by cases h) BW.out)
        clear HOW
        go_wp2_with fail
        go_ret
        exact HQ.out
    · have hkz : ¬ (k : Int) < (n : Int) := by omega
      obtain rfl : k = n := by omega
      by_cases h60 : k ≤ 60
      · have h60z : (k : Int) ≤ 60 := by omega
        obtain ⟨q, c, hvq, _, _, hrow, _⟩ := HOW.out.row
        have hlen : ((L.take k).map Sd.sp).length = k := by rw [List.length_map, List.length_take, HN.out]; omega
        have CF := Lib.hid (fewS_any ((L.take k).map Sd.sp) q c wr (spans_of hrow) (by rw [hlen]; omega))
        rw [hlen] at CF hvq
        subst hvq
        clear hrow HOW
        go_wp2_with fail
        refine CF.out.mono ?_
        rintro e w5 ⟨b, rfl, hb, hbl⟩
        have HQ := Lib.hid (HF.out b w5 (fun h => ⟨by rw [HN.out]; exact h60, by
          have := (hb h).2
          rwa [List.take_of_length_le (by rw [HN.out]; exact Nat.le_refl _)] at this⟩) (BW.out.trans (hbl.mono BW.out.size)))
        clear hb hbl
        go_wp2_with fail
        go_ret
        exact HQ.out
      · have h60z : ¬ (k : Int) ≤ 60 := by omega
        have HQ := Lib.hid (HF.out false wr (fun h => by cases h) BW.out)
        clear HOW
        go_wp2_with fail
        go_ret
        exact HQ.out
end Go.Proofs.Ytfadpiipigkocaa
namespace Go.Proofs.Ytfadpiipigkocaa
open Go.RowKit Go.Gz

/-- how many bytes a note's texts have. -/
def txtN (n : NtL) : Nat := (strB n.ask.t).size + (strB n.ask.v).size + (strB n.ask.f).size + (strB n.ask.u).size + (strB n.sf).size + (strB n.st).size + sumZ szL n.ls
structure NtLit (n : NtL) : Prop where
  txt : wrap64 (txtN n) ≤ 20000
  spn : wrap64 (sumZ szS (n.sh.map Sd.sp)) ≤ 3000
def RetSmT (w : World) (n : NtL) (e : Ending) (w' : World) : Prop := ∃ b, e = .returned (.bool b) ∧ (b = true → NtFew n ∧ NtLit n) ∧ Below w.heap.size w w'
theorem wrap_add (x y : Int) : wrap64 (wrap64 x + y) = wrap64 (x + y) := by unfold wrap64; omega
theorem wrap_six (a b c d e f : Nat) : wrap64 (wrap64 (wrap64 (wrap64 (wrap64 ((a : Int) + b) + c) + d) + e) + f) = wrap64 ((a + b + c + d + e + f : Nat) : Int) := by
  simp only [wrap_add]
  congr 1

set_option maxHeartbeats 16000000 in
set_option maxRecDepth 100000 in
theorem smallT_any (n : NtL) (P : NtP) (w : World) (hin : NtAg w n P) : Calls Try.prog 5 #[ntV n P] w (RetSmT w n) := by
  have HIN := Lib.hid hin
  obtain ⟨c, hc⟩ : ∃ c, (ntList n P).toArray = c := ⟨_, rfl⟩
  unfold ntV
  rw [hc]
  have A8 := Lib.hid (show c[8]? = some (.string (strB n.ask.t)) by rw [← hc]; rfl)
  have A9 := Lib.hid (show c[9]? = some (.string (strB n.ask.v)) by rw [← hc]; rfl)
  have A10 := Lib.hid (show c[10]? = some (.string (strB n.ask.f)) by rw [← hc]; rfl)
  have A11 := Lib.hid (show c[11]? = some (.string (strB n.ask.u)) by rw [← hc]; rfl)
  have A13 := Lib.hid (show c[13]? = some (.int .i64 n.rep.c) by rw [← hc]; rfl)
  have A14 := Lib.hid (show c[14]? = some (.int .i64 n.rep.s) by rw [← hc]; rfl)
  have A15 := Lib.hid (show c[15]? = some (.int .i64 n.rep.e) by rw [← hc]; rfl)
  have A16 := Lib.hid (show c[16]? = some (.bool n.rep.fd) by rw [← hc]; rfl)
  have A17 := Lib.hid (show c[17]? = some (.string (strB n.rep.v)) by rw [← hc]; rfl)
  have A18 := Lib.hid (show c[18]? = some (.slice P.rp n.rep.ls.length P.rk) by rw [← hc]; rfl)
  have A19 := Lib.hid (show c[19]? = some (.string (strB n.rep.nx)) by rw [← hc]; rfl)
  have A20 := Lib.hid (show c[20]? = some (.bool n.rep.mr) by rw [← hc]; rfl)
  have A21 := Lib.hid (show c[21]? = some (.string (strB n.sf)) by rw [← hc]; rfl)
  have A22 := Lib.hid (show c[22]? = some (.string (strB n.st)) by rw [← hc]; rfl)
  have A23 := Lib.hid (show c[23]? = some (.slice P.lp n.ls.length P.lk) by rw [← hc]; rfl)
  have A24 := Lib.hid (show c[24]? = some (.slice P.ap n.la.length P.ak) by rw [← hc]; rfl)
  have A25 := Lib.hid (show c[25]? = some (.int .i64 n.ae) by rw [← hc]; rfl)
  have A26 := Lib.hid (show c[26]? = some (.slice P.hp n.sh.length P.hk) by rw [← hc]; rfl)
  obtain ⟨W, hW⟩ : ∃ W, w.alloc (.cells c 35) = W := ⟨_, rfl⟩
  have HC := Lib.hid (show ∀ wr, Below W.heap.size W wr → ∀ i, wr.cell? ⟨w.heap.size, i, none⟩ = c[i]? from fun wr hb i => nt_box hW hb i)
  have HBW := Lib.hid (show Below w.heap.size w W from hW ▸ (Below.refl _ _).alloc (Nat.le_refl _) _)
  have HW := Lib.hid hW
  have HF := Lib.hid (show ∀ b : Bool, (b = true → NtFew n ∧ NtLit n) → ∀ w', Below W.heap.size W w' → RetSmT w n (.returned (.bool b)) w' from fun b h w' hb => ⟨b, rfl, h, HBW.out.trans (hb.mono HBW.out.size)⟩)
  obtain ⟨N, hN⟩ : ∃ N, n.ls.length = N := ⟨_, rfl⟩
  obtain ⟨M, hM⟩ : ∃ M, n.la.length = M := ⟨_, rfl⟩
  have HN := Lib.hid hN
  have HM := Lib.hid hM
  have hNz : (N : Int) ≤ 9223372036854775807 := by have := hin.ll; omega
  have hMz : (M : Int) ≤ 9223372036854775807 := by have := hin.al; omega
  rw [hN] at A23
  rw [hM] at A24
  clear hc hW hN hM hin
  go_enter Try.func5, Try.ntmps5
  go_upto_region 1 with fail
  rw [HW.out]
  have c8 := (HC.out W (Below.refl _ _) 8).trans A8.out
  have c9 := (HC.out W (Below.refl _ _) 9).trans A9.out
  have c10 := (HC.out W (Below.refl _ _) 10).trans A10.out
  have c11 := (HC.out W (Below.refl _ _) 11).trans A11.out
  have c21 := (HC.out W (Below.refl _ _) 21).trans A21.out
  have c22 := (HC.out W (Below.refl _ _) 22).trans A22.out
  go_wp2_with fail
  clear c8 c9 c10 c11 c21 c22
  obtain ⟨T6, hT6⟩ : ∃ T6, (strB n.ask.t).size + (strB n.ask.v).size + (strB n.ask.f).size + (strB n.ask.u).size + (strB n.sf).size + (strB n.st).size = T6 := ⟨_, rfl⟩
  have HT6 := Lib.hid hT6
  have HST6 := Lib.hid (wrap_six (strB n.ask.t).size (strB n.ask.v).size (strB n.ask.f).size (strB n.ask.u).size (strB n.sf).size (strB n.st).size)
  rw [hT6] at HST6
  clear hT6
  go_loopw [3, 4] (fun x i wr => ∃ (k : Nat) (z : Int), k ≤ N ∧ i = .int .i64 k ∧ x = .int .i64 z ∧ Hid (z = wrap64 ((T6 + sumZ szL (n.ls.take k) : Nat) : Int)) ∧ Hid (Below W.heap.size W wr)) (fun _ i _ => N - (RowKit.intOf i).toNat)
  case atStart => exact ⟨0, _, Nat.zero_le _, rfl, rfl, HST6, Lib.hid (Below.refl _ _)⟩
  case round =>
    obtain ⟨k, z, hk, rfl, rfl, HZ, HB⟩ := hrel
    have c23 := (HC.out _ HB.out 23).trans A23.out
    by_cases hlt : k < N
    · have hltz : (k : Int) < (N : Int) := by omega
      obtain ⟨b, o, hpe, hbl, r1, r2⟩ := rec_cell HIN.out.ls (HBW.out.trans (HB.out.mono HBW.out.size)) (show k < n.ls.length by rw [HN.out]; exact hlt)
      rw [hpe] at c23
      obtain ⟨s1, hs1⟩ : ∃ s, strB (n.ls.getD k ([], [])).1 = s := ⟨_, rfl⟩
      obtain ⟨s2, hs2⟩ : ∃ s, strB (n.ls.getD k ([], [])).2 = s := ⟨_, rfl⟩
      have HSU := Lib.hid (show wrap64 (wrap64 (z + s1.size) + s2.size) = wrap64 ((T6 + sumZ szL (n.ls.take (k + 1)) : Nat) : Int) from by
        rw [HZ.out, sumZ_succD ([], []) szL n.ls k (by rw [HN.out]; exact hlt)]
        have e : szL (n.ls.getD k ([], [])) = s1.size + s2.size := by rw [← hs1, ← hs2, strB_size, strB_size]; rfl
        rw [e, ← Nat.add_assoc]
        exact wrap_two _ _ _)
      rw [hs1] at r1
      rw [hs2] at r2
      clear hs1 hs2
      go_upto_region 5 with fail
      go_quiet (fail)
      go_wp2_with fail
      go_roundw
      case rel => exact ⟨k + 1, _, by omega, by go_num, rfl, HSU, Lib.hid (below_drewN HB.out _)⟩
      case measure => simp [RowKit.intOf]; omega
    · obtain rfl : k = N := by omega
      have hltz : ¬ (k : Int) < (k : Int) := by omega
      have HZE := Lib.hid (show z = wrap64 (txtN n) by
        have := HZ.out
        rw [List.take_of_length_le (by rw [HN.out]; exact Nat.le_refl _), ← HT6.out] at this
        exact this)
      go_wp2_with fail
      clear c23
      go_loopw [5] (fun i wr => ∃ j : Nat, i = .int .i64 j ∧ j ≤ M ∧ j ≤ 21 ∧ Hid (∀ e ∈ n.la.take j, e.r.ls.length ≤ 300) ∧ Hid (Below W.heap.size W wr)) (fun i _ => M - (RowKit.intOf i).toNat)
      case atStart => exact ⟨0, rfl, Nat.zero_le _, by omega, Lib.hid (by simp), HB⟩
      case round =>
        obtain ⟨j, rfl, hjn, hj1, HT, HB2⟩ := hrel
        have c24 := (HC.out _ HB2.out 24).trans A24.out
        by_cases hjt : j < M
        · have hjz : (j : Int) < (M : Int) := by omega
          have hkx : j < n.la.length := by rw [HM.out]; exact hjt
          obtain ⟨e, he⟩ : ∃ e, n.la.getD j default = e := ⟨_, rfl⟩
          have hie := HIN.out.les e (by rw [← he]; simp [List.getD, hkx])
          obtain ⟨pb, po, hpe, hpb, hce⟩ := rep_cells HIN.out.la (HBW.out.trans (HB2.out.mono HBW.out.size)) hkx
          rw [he] at hce
          rw [hpe] at c24
          have HTK := Lib.hid (show n.la.take (j + 1) = n.la.take j ++ [e] by
            rw [List.take_succ_eq_append_getElem hkx, ← he]
            simp [List.getD, hkx])
          have CS := Lib.hid (smallReply_any e.r e.p e.k wr hie.lo (hie.rs.below (HBW.out.trans (HB2.out.mono HBW.out.size))))
          unfold repV at CS
          rcases Nat.lt_or_ge 20 j with h1 | h1
          · have h1z : (20 : Int) < (j : Int) := by omega
            have h1d : decide ((20 : Int) < (j : Int)) = true := decide_eq_true h1z
            have HQ := Lib.hid (HF.out false (fun h => by (cases h)) _ HB2.out)
            clear hce he hie
            go_wp2_with fail
            go_ret
            exact HQ.out
          · have h1z : ¬ (20 : Int) < (j : Int) := by omega
            have h1d : decide ((20 : Int) < (j : Int)) = false := decide_eq_false h1z
            obtain ⟨es, er, ep, ek⟩ := e
            have z0 := hce 0 (by decide)
            have z1 := hce 1 (by decide)
            have z2 := hce 2 (by decide)
            have z3 := hce 3 (by decide)
            have z4 := hce 4 (by decide)
            have z5 := hce 5 (by decide)
            have z6 := hce 6 (by decide)
            have z7 := hce 7 (by decide)
            simp only [Ent.list, Nat.add_zero] at z0 z1 z2 z3 z4 z5 z6 z7
            simp only at CS HTK
            clear hce he hie
            go_wp2_with (go_at_call 13; refine CS.out.mono ?_; rintro e w2 ⟨b, rfl, hb, hbl⟩; have z4' := (hbl.cell (p := ⟨pb, po + j * 8 + 4, none⟩) (by have := HB2.out.size; have := HBW.out.size; show pb < _; omega)).trans z4; have c24' := (hbl.cell (p := ⟨w.heap.size, 24, none⟩) (by have := HB2.out.size; have := (show w.heap.size < W.heap.size by rw [← HW.out]; simp); show w.heap.size < _; omega)).trans c24; have HS := Lib.hid hb; have HB3 := Lib.hid (HB2.out.trans (hbl.mono HB2.out.size)); clear hb hbl; cases b)
            · go_ret
              exact HF.out false (fun h => by cases h) _ HB3.out
            · go_ret
              exact HF.out false (fun h => by cases h) _ HB3.out
            · refine ⟨⟨j + 1, by go_num, hjt, by omega, Lib.hid fun e he => ?_, HB3⟩, by simp [RowKit.intOf]; omega⟩
              rw [HTK.out] at he
              rcases List.mem_append.1 he with he | he
              · exact HT.out e he
              · obtain rfl : e = ⟨es, er, ep, ek⟩ := by simpa using he
                exact HS.out (by first | rfl | trivial | assumption)
        · have hjz : ¬ (j : Int) < (M : Int) := by omega
          have hje : j = M := by omega
          have HAL := Lib.hid (show n.la.length ≤ 21 by rw [HM.out]; omega)
          have HAE := Lib.hid (show ∀ e ∈ n.la, e.r.ls.length ≤ 300 by
            have := HT.out
            rwa [List.take_of_length_le (by rw [HM.out]; omega)] at this)
          have CA := Lib.hid (smallAS_any _ n.ae n.sh P.hp P.hk (HIN.out.sh.below (HBW.out.trans (HB2.out.mono HBW.out.size))) HIN.out.hl)
          have CR := Lib.hid (fun w1 (h : Below w.heap.size w w1) => smallReply_any n.rep P.rp P.rk w1 HIN.out.rl (HIN.out.rs.below h))
          unfold repV at CR
          have c23 := (HC.out _ HB2.out 23).trans A23.out
          have c25 := (HC.out _ HB2.out 25).trans A25.out
          have c26 := (HC.out _ HB2.out 26).trans A26.out
          have HQ0 := Lib.hid (HF.out false (fun h => by (cases h)) _ HB2.out)
          clear HT hje
          by_cases hz : z ≤ 20000
          · have hzd : decide (z ≤ 20000) = true := decide_eq_true hz
            by_cases h100 : (k : Int) ≤ 100
            · have h100d : decide ((k : Int) ≤ 100) = true := decide_eq_true h100
              have HLL := Lib.hid (show n.ls.length ≤ 100 by rw [HN.out]; omega)
              go_wp2_with (first | (go_at_call 14; refine CA.out.mono ?_; rintro e w3 ⟨b, rfl, hb, hbl⟩; have HB3 := Lib.hid (HB2.out.trans (hbl.mono HB2.out.size)); have HS := Lib.hid hb; clear hb hbl c23 c24 c25 c26; have CR2 := Lib.hid (CR.out w3 (HBW.out.trans (HB3.out.mono HBW.out.size))); have c13 := (HC.out w3 HB3.out 13).trans A13.out; have c14 := (HC.out w3 HB3.out 14).trans A14.out; have c15 := (HC.out w3 HB3.out 15).trans A15.out; have c16 := (HC.out w3 HB3.out 16).trans A16.out; have c17 := (HC.out w3 HB3.out 17).trans A17.out; have c18 := (HC.out w3 HB3.out 18).trans A18.out; have c19 := (HC.out w3 HB3.out 19).trans A19.out; have c20 := (HC.out w3 HB3.out 20).trans A20.out; cases b) | (go_at_call 13; refine CR2.out.mono ?_; rintro e w4 ⟨b, rfl, hb, hbl⟩; have HQ4 := Lib.hid (HF.out b (fun h => ⟨⟨hb h, HLL.out, HAL.out, HAE.out, (HS.out (by first | rfl | trivial | assumption)).1⟩, ⟨by have := HZE.out; omega, (HS.out (by first | rfl | trivial | assumption)).2⟩⟩) _ (HB3.out.trans (hbl.mono HB3.out.size))); clear hb hbl))
              · go_ret
                exact HF.out false (fun h => by cases h) _ HB3.out
              · go_ret
                exact HQ4.out
            · have h100d : decide ((k : Int) ≤ 100) = false := decide_eq_false h100
              go_wp2_with fail
              go_ret
              exact HQ0.out
          · have hzd : decide (z ≤ 20000) = false := decide_eq_false hz
            go_wp2_with fail
            go_ret
            exact HQ0.out
end Go.Proofs.Ytfadpiipigkocaa
namespace Go.Proofs.Ytfadpiipigkocaa
open Go.RowKit Go.Gz

/-- how many bytes a reply's texts have. -/
def lenR (r : RepL) : Nat := r.v.length + r.nx.length + sumZ szL r.ls
def RetSmR (r : RepL) (w : World) (e : Ending) (w' : World) : Prop := ∃ b, e = .returned (.bool b) ∧ (b = true → r.ls.length ≤ 300 ∧ wrap64 (lenR r : Nat) ≤ 50000) ∧ Below w.heap.size w w'
set_option maxHeartbeats 2000000 in
theorem smallReplyT_any (r : RepL) (p : Option Addr) (cap : Nat) (w : World) (hl : r.ls.length ≤ 9223372036854775807) (hp : Recs w p r.ls) :
    Calls Try.prog 13 #[repV r p cap] w (RetSmR r w) := by
  have HEND := Lib.hid (show ∀ b : Bool, (b = true → r.ls.length ≤ 300 ∧ wrap64 (lenR r : Nat) ≤ 50000) → ∀ w', Below w.heap.size w w' → RetSmR r w (.returned (.bool b)) w' from fun b h w' hb => ⟨b, rfl, h, hb⟩)
  have HLR := Lib.hid (show lenR r = (strB r.v).size + (strB r.nx).size + sumZ szL r.ls by rw [strB_size, strB_size]; rfl)
  obtain ⟨c, s, er, fd, v, ls, nx, mr⟩ := r
  unfold repV
  simp only at hl hp HLR ⊢
  have HP := Lib.hid hp
  obtain ⟨n, hN⟩ : ∃ n, ls.length = n := ⟨_, rfl⟩
  rw [hN] at hl ⊢
  have HN := Lib.hid hN
  have hnz : (n : Int) ≤ 9223372036854775807 := by omega
  have HB := Lib.hid (show Below w.heap.size w (w.alloc (.cells #[.int .i64 c, .int .i64 s, .int .i64 er, .bool fd, .string (strB v), .slice p n cap, .string (strB nx), .bool mr] 27)) from (Below.refl _ _).alloc (Nat.le_refl _) _)
  have HC := Lib.hid (fun i => box_cells (Below.refl (w.heap.size + 1) (w.alloc (.cells #[.int .i64 c, .int .i64 s, .int .i64 er, .bool fd, .string (strB v), .slice p n cap, .string (strB nx), .bool mr] 27))) i)
  obtain ⟨LR, hLR⟩ : ∃ x, lenR ⟨c, s, er, fd, v, ls, nx, mr⟩ = x := ⟨_, rfl⟩
  rw [hLR] at HLR HEND
  clear hLR
  obtain ⟨v1, hv1⟩ : ∃ x, strB v = x := ⟨_, rfl⟩
  obtain ⟨n1, hn1⟩ : ∃ x, strB nx = x := ⟨_, rfl⟩
  rw [hv1, hn1] at HLR HB HC ⊢
  clear hv1 hn1
  obtain ⟨T2, hT2⟩ : ∃ x, v1.size + n1.size = x := ⟨_, rfl⟩
  have HT2 := Lib.hid (show wrap64 ((v1.size : Int) + n1.size) = wrap64 ((T2 + sumZ szL (ls.take 0) : Nat) : Int) by rw [← hT2]; rfl)
  rw [hT2] at HLR
  clear hT2
  clear hp hN hl
  go_enter Try.func13, Try.ntmps13
  go_wp2_with fail
  obtain ⟨W, hW⟩ : ∃ W, w.alloc (.cells #[.int .i64 c, .int .i64 s, .int .i64 er, .bool fd, .string v1, .slice p n cap, .string n1, .bool mr] 27) = W := ⟨_, rfl⟩
  rw [hW] at HB HC ⊢
  clear hW
  go_loopw [3, 4] (fun x i wr => ∃ (k : Nat) (z : Int), k ≤ n ∧ i = .int .i64 k ∧ x = .int .i64 z ∧ Hid (z = wrap64 ((T2 + sumZ szL (ls.take k) : Nat) : Int)) ∧ Hid (∃ m, wr = W.drewN m)) (fun _ i _ => n - (RowKit.intOf i).toNat)
  case atStart => exact ⟨0, _, Nat.zero_le _, rfl, rfl, HT2, Lib.hid ⟨0, rfl⟩⟩
  case round =>
    obtain ⟨k, z, hk, rfl, rfl, HZ, HM⟩ := hrel
    obtain ⟨m, rfl⟩ := HM.out
    have c5 := HC.out 5
    by_cases hlt : k < n
    · have hltz : (k : Int) < (n : Int) := by omega
      obtain ⟨b, o, hpe, hbl, r1, r2⟩ := rec_cell HP.out HB.out (show k < ls.length by rw [HN.out]; exact hlt)
      subst hpe
      obtain ⟨s1, hs1⟩ : ∃ s, strB (ls.getD k ([], [])).1 = s := ⟨_, rfl⟩
      obtain ⟨s2, hs2⟩ : ∃ s, strB (ls.getD k ([], [])).2 = s := ⟨_, rfl⟩
      have HSU := Lib.hid (show wrap64 (wrap64 (z + s1.size) + s2.size) = wrap64 ((T2 + sumZ szL (ls.take (k + 1)) : Nat) : Int) from by
        rw [HZ.out, sumZ_succD ([], []) szL ls k (by rw [HN.out]; exact hlt)]
        have e : szL (ls.getD k ([], [])) = s1.size + s2.size := by rw [← hs1, ← hs2, strB_size, strB_size]; rfl
        rw [e, ← Nat.add_assoc]
        exact wrap_two _ _ _)
      rw [hs1] at r1
      rw [hs2] at r2
      clear hs1 hs2
      go_wp2_with fail
      go_quiet (fail)
      go_wp2_with fail
      go_roundw
      case rel => exact ⟨k + 1, _, by omega, by go_num, rfl, HSU, Lib.hid ⟨_, rfl⟩⟩
      case measure => simp [RowKit.intOf]; omega
    · obtain rfl : k = n := by omega
      have hltz : ¬ (k : Int) < (k : Int) := by omega
      have HB2 := Lib.hid (below_drewN HB.out m)
      have HZE := Lib.hid (show z = wrap64 (LR : Nat) by rw [HZ.out, HLR.out, List.take_of_length_le (by rw [HN.out]; exact Nat.le_refl _)])
      by_cases h3 : k ≤ 300
      · have h3z : decide ((k : Int) ≤ 300) = true := by simp; omega
        by_cases hz : z ≤ 50000
        · have hzd : decide (z ≤ 50000) = true := decide_eq_true hz
          have HQ := Lib.hid (HEND.out true (fun _ => ⟨by rw [HN.out]; exact h3, by rw [← HZE.out]; exact hz⟩) _ HB2.out)
          go_wp2_with fail
          go_ret
          exact HQ.out
        · have hzd : decide (z ≤ 50000) = false := decide_eq_false hz
          have HQ := Lib.hid (HEND.out false (fun h => by cases h) _ HB2.out)
          go_wp2_with fail
          go_ret
          exact HQ.out
      · have h3z : decide ((k : Int) ≤ 300) = false := by simp; omega
        go_wp2_with fail
        go_ret
        exact HEND.out false (fun h => by cases h) _ HB2.out
end Go.Proofs.Ytfadpiipigkocaa
