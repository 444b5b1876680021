/-
  Layer note, the law's: what its may says of a note that may be (one way).
-/
import Derived.Test.YtfadpiipigkocaaMg27
import Derived.Test.YtfadpiipigkocaaMg16
import Derived.Test.YtfadpiipigkocaaMg22
import Derived.Test.YtfadpiipigkocaaRegSeq
import Derived.BigQuiet
import Derived.Deep.CutRange
namespace Go.Proofs.Ytfadpiipigkocaa
open Go.RowKit Go.Gz

set_option maxHeartbeats 1000000 in
theorem partyR_any (n : Int) (w : World) : Calls Try.prog 15 #[.int .i64 n] w fun e w' => e = .returned (.bool (partyB n)) ∧ w = w' := by
  by_cases h : partyB n = true
  · rw [h]
    unfold partyB at h
    rw [decide_eq_true_eq] at h
    by_cases h5 : 0 ≤ n ∧ n ≤ 5
    · obtain ⟨h6, h7⟩ := h5
      clear h
      go_enter Try.func15, Try.ntmps15
      go_wp2_with fail
      go_ret
      exact ⟨rfl, rfl⟩
    · have h8 : ¬ n ≤ 5 := by omega
      have h9 : 0 ≤ n := by omega
      have h10 : 100 ≤ n := by omega
      have h11 : n < 104 := by omega
      clear h h5
      go_enter Try.func15, Try.ntmps15
      go_wp2_with fail
      go_ret
      exact ⟨rfl, rfl⟩
  · rw [show partyB n = false by simpa using h]
    unfold partyB at h
    rw [decide_eq_true_eq] at h
    by_cases h9 : 0 ≤ n
    · have h8 : ¬ n ≤ 5 := by omega
      by_cases h10 : 100 ≤ n
      · have h11 : ¬ n < 104 := by omega
        clear h
        go_enter Try.func15, Try.ntmps15
        go_wp2_with fail
        go_ret
        exact ⟨rfl, rfl⟩
      · clear h
        go_enter Try.func15, Try.ntmps15
        go_wp2_with fail
        go_ret
        exact ⟨rfl, rfl⟩
    · have h10 : ¬ 100 ≤ n := by omega
      clear h
      go_enter Try.func15, Try.ntmps15
      go_wp2_with fail
      go_ret
      exact ⟨rfl, rfl⟩
theorem and_no {a b : Bool} (h : (!a && !b) = false) : a = true ∨ b = true := by cases a <;> cases b <;> simp_all
theorem and_no2 {a b c : Bool} (h : (!a && (!b || !c)) = false) : a = true ∨ (b = true ∧ c = true) := by cases a <;> cases b <;> cases c <;> simp_all
theorem and_no3 {a b c : Bool} (h : (!a && (b || c)) = false) : a = true ∨ (b = false ∧ c = false) := by cases a <;> cases b <;> cases c <;> simp_all
theorem and_no4 {a b c : Bool} (h : (!a && (!b || c)) = false) : a = true ∨ (b = true ∧ c = false) := by cases a <;> cases b <;> cases c <;> simp_all
def RetMay (w : World) (n : NtL) (e : Ending) (w' : World) : Prop := ∃ b, e = .returned (.bool b) ∧ (b = true → MayF n) ∧ Below w.heap.size w w'
/-- what a note's parts are, and whether they are small. -/
structure MaySm (n : NtL) : Prop where
  ask : n.ask.t.length + n.ask.v.length + n.ask.f.length + n.ask.u.length ≤ 1000000000000
  rep : n.rep.v.length + n.rep.nx.length + szRs n.rep.ls ≤ 1000000000000
  repl : n.rep.ls.length ≤ 300
  la : ∀ e ∈ n.la, e.r.v.length + e.r.nx.length + szRs e.r.ls ≤ 1000000000000 ∧ e.r.ls.length ≤ 300
  lal : n.la.length ≤ 21
  lsl : n.ls.length ≤ 100
  shl : n.sh.length ≤ 60

set_option maxHeartbeats 64000000 in
set_option maxRecDepth 100000 in
theorem mayR_any (n : NtL) (P : NtP) (w : World) (ha : NtAg w n P) (hs : MaySm n) : Calls Try.prog 6 #[ntV n P] w (RetMay w n) := by
  have HA := Lib.hid ha
  have HS := Lib.hid hs
  obtain ⟨c, hc⟩ : ∃ c, (ntList n P).toArray = c := ⟨_, rfl⟩
  unfold ntV
  rw [hc]
  have A0 := Lib.hid (show c[0]? = some (.int .i64 n.kd) by rw [← hc]; rfl)
  have A1 := Lib.hid (show c[1]? = some (.int .i64 n.fr) by rw [← hc]; rfl)
  have A2 := Lib.hid (show c[2]? = some (.int .i64 n.to_) by rw [← hc]; rfl)
  have A3 := Lib.hid (show c[3]? = some (.int .i64 n.ep) by rw [← hc]; rfl)
  have A4 := Lib.hid (show c[4]? = some (.int .i64 n.tk) by rw [← hc]; rfl)
  have A5 := Lib.hid (show c[5]? = some (.int .i64 n.ask.d) by rw [← hc]; rfl)
  have A6 := Lib.hid (show c[6]? = some (.int .i64 n.ask.c) by rw [← hc]; rfl)
  have A7 := Lib.hid (show c[7]? = some (.int .i64 n.ask.s) by rw [← hc]; rfl)
  have A8 := Lib.hid (show c[8]? = some (.string (strB n.ask.t)) by rw [← hc]; rfl)
  have A9 := Lib.hid (show c[9]? = some (.string (strB n.ask.v)) by rw [← hc]; rfl)
  have A10 := Lib.hid (show c[10]? = some (.string (strB n.ask.f)) by rw [← hc]; rfl)
  have A11 := Lib.hid (show c[11]? = some (.string (strB n.ask.u)) by rw [← hc]; rfl)
  have A12 := Lib.hid (show c[12]? = some (.int .i64 n.ask.m) by rw [← hc]; rfl)
  have A13 := Lib.hid (show c[13]? = some (.int .i64 n.rep.c) by rw [← hc]; rfl)
  have A14 := Lib.hid (show c[14]? = some (.int .i64 n.rep.s) by rw [← hc]; rfl)
  have A15 := Lib.hid (show c[15]? = some (.int .i64 n.rep.e) by rw [← hc]; rfl)
  have A16 := Lib.hid (show c[16]? = some (.bool n.rep.fd) by rw [← hc]; rfl)
  have A17 := Lib.hid (show c[17]? = some (.string (strB n.rep.v)) by rw [← hc]; rfl)
  have A18 := Lib.hid (show c[18]? = some (.slice P.rp n.rep.ls.length P.rk) by rw [← hc]; rfl)
  have A19 := Lib.hid (show c[19]? = some (.string (strB n.rep.nx)) by rw [← hc]; rfl)
  have A20 := Lib.hid (show c[20]? = some (.bool n.rep.mr) by rw [← hc]; rfl)
  have A21 := Lib.hid (show c[21]? = some (.string (strB n.sf)) by rw [← hc]; rfl)
  have A22 := Lib.hid (show c[22]? = some (.string (strB n.st)) by rw [← hc]; rfl)
  have A23 := Lib.hid (show c[23]? = some (.slice P.lp n.ls.length P.lk) by rw [← hc]; rfl)
  have A24 := Lib.hid (show c[24]? = some (.slice P.ap n.la.length P.ak) by rw [← hc]; rfl)
  have A25 := Lib.hid (show c[25]? = some (.int .i64 n.ae) by rw [← hc]; rfl)
  have A26 := Lib.hid (show c[26]? = some (.slice P.hp n.sh.length P.hk) by rw [← hc]; rfl)
  obtain ⟨W, hW⟩ : ∃ W, w.alloc (.cells c 35) = W := ⟨_, rfl⟩
  have HC := Lib.hid (show ∀ wr, Below W.heap.size W wr → ∀ i, wr.cell? ⟨w.heap.size, i, none⟩ = c[i]? from fun wr hb i => nt_box hW hb i)
  have HBW := Lib.hid (show Below w.heap.size w W from hW ▸ (Below.refl _ _).alloc (Nat.le_refl _) _)
  have HW := Lib.hid hW
  have HF := Lib.hid (show ∀ b : Bool, (b = true → MayF n) → ∀ w', Below W.heap.size W w' → RetMay w n (.returned (.bool b)) w' from fun b h w' hb => ⟨b, rfl, h, HBW.out.trans (hb.mono HBW.out.size)⟩)
  have HNO := Lib.hid (HF.out false (fun h => by cases h))
  have HP1 := Lib.hid (partyR_any n.fr)
  have HP2 := Lib.hid (partyR_any n.to_)
  obtain ⟨q0, hq0⟩ : ∃ q, w.heap.size = q := ⟨_, rfl⟩
  rw [hq0] at HC
  have HQ0 := Lib.hid hq0
  have k0 := (HC.out W (Below.refl _ _) 0).trans A0.out
  have k1 := (HC.out W (Below.refl _ _) 1).trans A1.out
  have k2 := (HC.out W (Below.refl _ _) 2).trans A2.out
  have k3 := (HC.out W (Below.refl _ _) 3).trans A3.out
  have k4 := (HC.out W (Below.refl _ _) 4).trans A4.out
  obtain ⟨kd, hkd⟩ : ∃ x, n.kd = x := ⟨_, rfl⟩
  obtain ⟨fr, hfr⟩ : ∃ x, n.fr = x := ⟨_, rfl⟩
  obtain ⟨to_, hto⟩ : ∃ x, n.to_ = x := ⟨_, rfl⟩
  obtain ⟨ep, hep⟩ : ∃ x, n.ep = x := ⟨_, rfl⟩
  obtain ⟨tk, htk⟩ : ∃ x, n.tk = x := ⟨_, rfl⟩
  rw [hkd] at k0
  rw [hfr] at k1 HP1
  rw [hto] at k2 HP2
  rw [hep] at k3
  rw [htk] at k4
  have HN := Lib.hid (And.intro hkd (And.intro hfr (And.intro hto (And.intro hep htk))))
  obtain ⟨p1, hp1⟩ : ∃ b, partyB fr = b := ⟨_, rfl⟩
  obtain ⟨p2, hp2⟩ : ∃ b, partyB to_ = b := ⟨_, rfl⟩
  rw [hp1] at HP1
  rw [hp2] at HP2
  have HPP := Lib.hid (And.intro hp1 hp2)
  clear hW hc ha hs hq0 hkd hfr hto hep htk hp1 hp2
  go_enter Try.func6, Try.ntmps6
  go_upto_region 1 with fail
  rw [HW.out, HQ0.out]
  by_cases hk1 : kd < 1
  · skip
    have HQ := Lib.hid (HNO.out W (Below.refl _ _))
    go_wp2_with fail
    go_ret
    exact HQ.out
  by_cases hk2 : 12 < kd
  · skip
    have HQ := Lib.hid (HNO.out W (Below.refl _ _))
    go_wp2_with fail
    go_ret
    exact HQ.out
  cases p1 with
  | false =>
    have HQ := Lib.hid (HNO.out W (Below.refl _ _))
    go_wp2_with fail
    refine (HP1.out _).mono ?_
    rintro e w1 ⟨rfl, rfl⟩
    go_wp2_with fail
    go_ret
    exact HQ.out
  | true =>
  cases p2 with
  | false =>
    have HQ := Lib.hid (HNO.out W (Below.refl _ _))
    go_wp2_with fail
    refine (HP1.out _).mono ?_
    rintro e w1 ⟨rfl, rfl⟩
    go_wp2_with fail
    refine (HP2.out _).mono ?_
    rintro e w1 ⟨rfl, rfl⟩
    go_wp2_with fail
    go_ret
    exact HQ.out
  | true =>
  obtain ⟨qe, heb⟩ : ∃ b, (fr == to_) = b := ⟨_, rfl⟩
  cases qe with
  | true =>
    have HQ := Lib.hid (HNO.out W (Below.refl _ _))
    go_wp2_with fail
    refine (HP1.out _).mono ?_
    rintro e w1 ⟨rfl, rfl⟩
    go_wp2_with fail
    refine (HP2.out _).mono ?_
    rintro e w1 ⟨rfl, rfl⟩
    go_wp2_with fail
    go_ret
    exact HQ.out
  | false =>
  by_cases h3 : ep < 0
  · skip
    have HQ := Lib.hid (HNO.out W (Below.refl _ _))
    go_wp2_with fail
    refine (HP1.out _).mono ?_
    rintro e w1 ⟨rfl, rfl⟩
    go_wp2_with fail
    refine (HP2.out _).mono ?_
    rintro e w1 ⟨rfl, rfl⟩
    go_wp2_with fail
    go_ret
    exact HQ.out
  by_cases h4 : 268435456 ≤ ep
  · skip
    have HQ := Lib.hid (HNO.out W (Below.refl _ _))
    go_wp2_with fail
    refine (HP1.out _).mono ?_
    rintro e w1 ⟨rfl, rfl⟩
    go_wp2_with fail
    refine (HP2.out _).mono ?_
    rintro e w1 ⟨rfl, rfl⟩
    go_wp2_with fail
    go_ret
    exact HQ.out
  by_cases h5 : tk < 0
  · skip
    have HQ := Lib.hid (HNO.out W (Below.refl _ _))
    go_wp2_with fail
    refine (HP1.out _).mono ?_
    rintro e w1 ⟨rfl, rfl⟩
    go_wp2_with fail
    refine (HP2.out _).mono ?_
    rintro e w1 ⟨rfl, rfl⟩
    go_wp2_with fail
    go_ret
    exact HQ.out
  by_cases h6 : 268435456 ≤ tk
  · skip
    have HQ := Lib.hid (HNO.out W (Below.refl _ _))
    go_wp2_with fail
    refine (HP1.out _).mono ?_
    rintro e w1 ⟨rfl, rfl⟩
    go_wp2_with fail
    refine (HP2.out _).mono ?_
    rintro e w1 ⟨rfl, rfl⟩
    go_wp2_with fail
    go_ret
    exact HQ.out
  go_wp2_with fail
  refine (HP1.out _).mono ?_
  rintro e w1 ⟨rfl, rfl⟩
  go_wp2_with fail
  refine (HP2.out _).mono ?_
  rintro e w1 ⟨rfl, rfl⟩
  go_upto_region 3 with fail
  have HKD := Lib.hid (show 1 ≤ kd ∧ kd ≤ 12 by omega)
  have HEPTK := Lib.hid (show (0 ≤ ep ∧ ep < 268435456) ∧ 0 ≤ tk ∧ tk < 268435456 by omega)
  obtain ⟨NL, hNL⟩ : ∃ x, n.ls.length = x := ⟨_, rfl⟩
  obtain ⟨NK, hNK⟩ : ∃ x, n.la.length = x := ⟨_, rfl⟩
  obtain ⟨NH, hNH⟩ : ∃ x, n.sh.length = x := ⟨_, rfl⟩
  rw [hNL] at A23
  rw [hNK] at A24
  rw [hNH] at A26
  obtain ⟨qa, hqa⟩ : ∃ q : Bool, decide (n.ask.d = 0 ∧ n.ask.c = 0 ∧ n.ask.s = 0 ∧ strB n.ask.t = ⟨#[]⟩ ∧ strB n.ask.v = ⟨#[]⟩ ∧ strB n.ask.f = ⟨#[]⟩ ∧ strB n.ask.u = ⟨#[]⟩ ∧ n.ask.m = 0) = q := ⟨_, rfl⟩
  obtain ⟨qs, hqs⟩ : ∃ q : Bool, decide (strB n.sf = ⟨#[]⟩ ∧ strB n.st = ⟨#[]⟩) = q := ⟨_, rfl⟩
  have HEA := Lib.hid (show ∀ w, (Op.equalIn 10000 23 (.agg #[.int .i64 n.ask.d, .int .i64 n.ask.c, .int .i64 n.ask.s, .string (strB n.ask.t), .string (strB n.ask.v), .string (strB n.ask.f), .string (strB n.ask.u), .int .i64 n.ask.m]) (.agg #[.int .i64 0, .int .i64 0, .int .i64 0, .string ⟨#[]⟩, .string ⟨#[]⟩, .string ⟨#[]⟩, .string ⟨#[]⟩, .int .i64 0])).run Try.prog w = .ok qa w from fun w => by rw [← hqa]; exact ask0_eq 9998 _ _ _ _ _ _ _ _ w)
  have HES := Lib.hid (show ∀ w, (Op.equalIn 10000 29 (.agg #[.string (strB n.sf), .string (strB n.st)]) (.agg #[.string ⟨#[]⟩, .string ⟨#[]⟩])).run Try.prog w = .ok qs w from fun w => by rw [← hqs]; exact span0_eq 9998 _ _ w)
  obtain ⟨sR, hsR⟩ : ∃ q : Bool, (q = true ↔ n.rep = repZ) := ⟨@decide (n.rep = repZ) (Classical.propDecidable _), @decide_eq_true_iff _ (Classical.propDecidable _)⟩
  have CSR := Lib.hid (show ∀ w', Below W.heap.size W w' → Calls Try.prog 16 #[.agg #[.int .i64 n.rep.c, .int .i64 n.rep.s, .int .i64 n.rep.e, .bool n.rep.fd, .string (strB n.rep.v), .slice P.rp n.rep.ls.length P.rk, .string (strB n.rep.nx), .bool n.rep.mr], .agg #[.int .i64 0, .int .i64 0, .int .i64 0, .bool false, .string ⟨#[]⟩, .slice none 0 0, .string ⟨#[]⟩, .bool false]] w' fun e w'' => e = .returned (.bool sR) ∧ Below w'.heap.size w' w'' from fun w' hb => by
    refine (same_any n.rep repZ P.rp none P.rk 0 w' (HA.out.rs.below (HBW.out.trans (hb.mono HBW.out.size))) (Or.inl rfl) HA.out.rl (by decide)).mono ?_
    rintro e w'' ⟨b, rfl, hb1, hb2⟩
    exact ⟨by rw [show b = sR by rw [Bool.eq_iff_iff, hb1, hsR]], hb2⟩)
  obtain ⟨a1, ha1⟩ : ∃ b, (kd == 1) = b := ⟨_, rfl⟩
  obtain ⟨a2, ha2⟩ : ∃ b, (kd == 2) = b := ⟨_, rfl⟩
  obtain ⟨a4, ha4⟩ : ∃ b, (kd == 4) = b := ⟨_, rfl⟩
  obtain ⟨a5, ha5⟩ : ∃ b, (kd == 5) = b := ⟨_, rfl⟩
  obtain ⟨a6, ha6⟩ : ∃ b, (kd == 6) = b := ⟨_, rfl⟩
  obtain ⟨a7, ha7⟩ : ∃ b, decide (7 ≤ kd) = b := ⟨_, rfl⟩
  obtain ⟨a8, ha8⟩ : ∃ b, (kd == 8) = b := ⟨_, rfl⟩
  obtain ⟨a9, ha9⟩ : ∃ b, (kd == 9) = b := ⟨_, rfl⟩
  obtain ⟨nT, hnT⟩ : ∃ b, (!(tk == 0)) = b := ⟨_, rfl⟩
  obtain ⟨nE, hnE⟩ : ∃ b, (!(ep == 0)) = b := ⟨_, rfl⟩
  obtain ⟨nM, hnM⟩ : ∃ b, (!(n.ae == 0)) = b := ⟨_, rfl⟩
  obtain ⟨nL, hnL⟩ : ∃ b, decide ((0 : Int) < (NL : Int)) = b := ⟨_, rfl⟩
  obtain ⟨nK, hnK⟩ : ∃ b, decide ((0 : Int) < (NK : Int)) = b := ⟨_, rfl⟩
  obtain ⟨nH, hnH⟩ : ∃ b, decide ((0 : Int) < (NH : Int)) = b := ⟨_, rfl⟩
  obtain ⟨nA, hnA⟩ : ∃ b, (!qa) = b := ⟨_, rfl⟩
  obtain ⟨nS, hnS⟩ : ∃ b, (!qs) = b := ⟨_, rfl⟩
  obtain ⟨T5, hT5⟩ : ∃ b, (a5 || a6) = b := ⟨_, rfl⟩
  obtain ⟨L8, hL8⟩ : ∃ b, (a8 || a9) = b := ⟨_, rfl⟩
  obtain ⟨M4, hM4⟩ : ∃ b, (a4 || a6) = b := ⟨_, rfl⟩
  obtain ⟨P1, hP1⟩ : ∃ b, (!a1 && nA) = b := ⟨_, rfl⟩
  obtain ⟨P2, hP2⟩ : ∃ b, (P1 || (!a2 && !sR)) = b := ⟨_, rfl⟩
  obtain ⟨P3, hP3⟩ : ∃ b, (P2 || (!T5 && nT)) = b := ⟨_, rfl⟩
  obtain ⟨P4, hP4⟩ : ∃ b, (P3 || (!a7 && (nS || nE))) = b := ⟨_, rfl⟩
  obtain ⟨P5, hP5⟩ : ∃ b, (P4 || (!L8 && (nL || nK))) = b := ⟨_, rfl⟩
  obtain ⟨P6, hP6⟩ : ∃ b, (P5 || (!M4 && (nM || nH))) = b := ⟨_, rfl⟩
  have H_ha1 := Lib.hid ha1
  have H_ha2 := Lib.hid ha2
  have H_ha4 := Lib.hid ha4
  have H_ha5 := Lib.hid ha5
  have H_ha6 := Lib.hid ha6
  have H_ha7 := Lib.hid ha7
  have H_ha8 := Lib.hid ha8
  have H_ha9 := Lib.hid ha9
  have H_hnT := Lib.hid hnT
  have H_hnE := Lib.hid hnE
  have H_hnM := Lib.hid hnM
  have H_hnL := Lib.hid hnL
  have H_hnK := Lib.hid hnK
  have H_hnH := Lib.hid hnH
  have H_hnA := Lib.hid hnA
  have H_hnS := Lib.hid hnS
  have H_hqa := Lib.hid hqa
  have H_hqs := Lib.hid hqs
  have H_hNL := Lib.hid hNL
  have H_hNK := Lib.hid hNK
  have H_hNH := Lib.hid hNH
  have H_hsR := Lib.hid hsR
  have H_hT5 := Lib.hid hT5
  have H_hL8 := Lib.hid hL8
  have H_hM4 := Lib.hid hM4
  have H_hP1 := Lib.hid hP1
  have H_hP2 := Lib.hid hP2
  have H_hP3 := Lib.hid hP3
  have H_hP4 := Lib.hid hP4
  have H_hP5 := Lib.hid hP5
  have H_hP6 := Lib.hid hP6
  have H_heb := Lib.hid heb
  clear k0 k1 k2 k3 k4 hk1 hk2 h3 h4 h5 h6 ha1 ha2 ha4 ha5 ha6 ha7 ha8 ha9 hnT hnE hnM hnL hnK hnH hnA hnS hqa hqs hNL hNK hNH hsR hT5 hL8 hM4 hP1 hP2 hP3 hP4 hP5 hP6 heb
  refine wp_region_mono mixedAt (by kernel_rfl) [VP.eq (.pointer (some ⟨q0, 0, none⟩)), VP.eq (.int .i64 kd), VP.eq (.bool a1), VP.eq (.pointer (some ⟨q0, 0, none⟩)), VP.eq (.int .i64 kd), VP.eq (.bool a2), VP.eq (.pointer (some ⟨q0, 0, none⟩)), VP.eq (.int .i64 kd), VP.eq (.bool a5), VP.eq (.bool a5), VP.eq ((bif !a5 then .pointer (some ⟨q0, 0, none⟩) else undef)), VP.eq ((bif !a5 then .int .i64 kd else undef)), VP.eq ((bif !a5 then .bool a6 else undef)), VP.eq (.bool T5), VP.eq (.pointer (some ⟨q0, 0, none⟩)), VP.eq (.int .i64 kd), VP.eq (.bool a7), VP.eq (.pointer (some ⟨q0, 0, none⟩)), VP.eq (.int .i64 kd), VP.eq (.bool a8), VP.eq (.bool a8), VP.eq ((bif !a8 then .pointer (some ⟨q0, 0, none⟩) else undef)), VP.eq ((bif !a8 then .int .i64 kd else undef)), VP.eq ((bif !a8 then .bool a9 else undef)), VP.eq (.bool L8), VP.eq (.pointer (some ⟨q0, 0, none⟩)), VP.eq (.int .i64 kd), VP.eq (.bool a4), VP.eq (.bool a4), VP.eq ((bif !a4 then .pointer (some ⟨q0, 0, none⟩) else undef)), VP.eq ((bif !a4 then .int .i64 kd else undef)), VP.eq ((bif !a4 then .bool a6 else undef)), VP.eq (.bool M4), VP.eq (.bool a1), VP.eq (.bool a2), VP.eq (.bool T5), VP.eq (.bool a7), VP.eq (.bool L8), VP.eq (.bool M4)] ?_ ?_
  · intro i opr Ls vals w' hi hL' hdep hC hB hV
    have hlt : i < 39 := by have := (List.getElem?_eq_some_iff.1 hi).1; simpa using this
    generalize hA : frA _ _ Ls vals = a'
    have hT1 : a'.tmps.getD 1 undef = .pointer (some ⟨q0, 0, none⟩) := by rw [← hA, frA_base (by kernel_rfl)]; rfl
    have hD := Lib.hid (fun k t (hk : Ls k = true) (ht : dstOf _ k = some t) => hA ▸ frA_done (by kernel_rfl) (vals := vals) hk ht)
    clear hA
    have hcell := Lib.hid (fun i => HC.out w' (hB) i)
    obtain rfl | rfl | rfl | rfl | rfl | rfl | rfl | rfl | rfl | rfl | rfl | rfl | rfl | rfl | rfl | rfl | rfl | rfl | rfl | rfl | rfl | rfl | rfl | rfl | rfl | rfl | rfl | rfl | rfl | rfl | rfl | rfl | rfl | rfl | rfl | rfl | rfl | rfl | rfl : i = 0 ∨ i = 1 ∨ i = 2 ∨ i = 3 ∨ i = 4 ∨ i = 5 ∨ i = 6 ∨ i = 7 ∨ i = 8 ∨ i = 9 ∨ i = 10 ∨ i = 11 ∨ i = 12 ∨ i = 13 ∨ i = 14 ∨ i = 15 ∨ i = 16 ∨ i = 17 ∨ i = 18 ∨ i = 19 ∨ i = 20 ∨ i = 21 ∨ i = 22 ∨ i = 23 ∨ i = 24 ∨ i = 25 ∨ i = 26 ∨ i = 27 ∨ i = 28 ∨ i = 29 ∨ i = 30 ∨ i = 31 ∨ i = 32 ∨ i = 33 ∨ i = 34 ∨ i = 35 ∨ i = 36 ∨ i = 37 ∨ i = 38 := by omega
    all_goals
      injection hi with hi
      subst hi
      try simp [Region.binds] at hdep
    · skip
      exact step_run rfl (w' := w') (by go_simp) ⟨rfl, Below.refl _ _⟩
    · skip
      have d63 := hD.out 0 63 (by simp [hdep]) rfl
      rw [show vals 0 = _ from hV 0 (by simp [hdep])] at d63
      change _ = (.pointer (some ⟨q0, 0, none⟩) : Value) at d63
      have c0 := (hcell.out 0).trans A0.out
      rw [HN.out.1] at c0
      exact step_run rfl (w' := w') (by go_simp) ⟨rfl, Below.refl _ _⟩
    · skip
      have d64 := hD.out 1 64 (by simp [hdep]) rfl
      rw [show vals 1 = _ from hV 1 (by simp [hdep])] at d64
      change _ = (.int .i64 kd : Value) at d64
      have e0 := H_ha1.out
      exact step_run rfl (w' := w') (by go_simp) ⟨rfl, Below.refl _ _⟩
    · skip
      exact step_run rfl (w' := w') (by go_simp) ⟨rfl, Below.refl _ _⟩
    · skip
      have d66 := hD.out 3 66 (by simp [hdep]) rfl
      rw [show vals 3 = _ from hV 3 (by simp [hdep])] at d66
      change _ = (.pointer (some ⟨q0, 0, none⟩) : Value) at d66
      have c0 := (hcell.out 0).trans A0.out
      rw [HN.out.1] at c0
      exact step_run rfl (w' := w') (by go_simp) ⟨rfl, Below.refl _ _⟩
    · skip
      have d67 := hD.out 4 67 (by simp [hdep]) rfl
      rw [show vals 4 = _ from hV 4 (by simp [hdep])] at d67
      change _ = (.int .i64 kd : Value) at d67
      have e0 := H_ha2.out
      exact step_run rfl (w' := w') (by go_simp) ⟨rfl, Below.refl _ _⟩
    · skip
      exact step_run rfl (w' := w') (by go_simp) ⟨rfl, Below.refl _ _⟩
    · skip
      have d69 := hD.out 6 69 (by simp [hdep]) rfl
      rw [show vals 6 = _ from hV 6 (by simp [hdep])] at d69
      change _ = (.pointer (some ⟨q0, 0, none⟩) : Value) at d69
      have c0 := (hcell.out 0).trans A0.out
      rw [HN.out.1] at c0
      exact step_run rfl (w' := w') (by go_simp) ⟨rfl, Below.refl _ _⟩
    · skip
      have d70 := hD.out 7 70 (by simp [hdep]) rfl
      rw [show vals 7 = _ from hV 7 (by simp [hdep])] at d70
      change _ = (.int .i64 kd : Value) at d70
      have e0 := H_ha5.out
      exact step_run rfl (w' := w') (by go_simp) ⟨rfl, Below.refl _ _⟩
    · skip
      have d71 := hD.out 8 71 (by simp [hdep]) rfl
      rw [show vals 8 = _ from hV 8 (by simp [hdep])] at d71
      change _ = (.bool a5 : Value) at d71
      exact step_run rfl (w' := w') (by go_simp) ⟨rfl, Below.refl _ _⟩
    · skip
      have d72 := hD.out 9 72 (by simp [hdep]) rfl
      rw [show vals 9 = _ from hV 9 (by simp [hdep])] at d72
      change _ = (.bool a5 : Value) at d72
      cases a5
      all_goals
        first
          | exact step_shut (wanted_shut rfl rfl d72 (by decide)) ⟨rfl, Below.refl _ _⟩
          | exact step_shut (wanted_undef rfl rfl d72) ⟨rfl, Below.refl _ _⟩
          | exact step_run' (wanted_open rfl rfl d72) (w' := w') (by go_simp) ⟨rfl, Below.refl _ _⟩
    · skip
      have d73 := hD.out 10 73 (by simp [hdep]) rfl
      rw [show vals 10 = _ from hV 10 (by simp [hdep])] at d73
      change _ = ((bif !a5 then .pointer (some ⟨q0, 0, none⟩) else undef) : Value) at d73
      have d72 := hD.out 9 72 (by simp [hdep]) rfl
      rw [show vals 9 = _ from hV 9 (by simp [hdep])] at d72
      change _ = (.bool a5 : Value) at d72
      have c0 := (hcell.out 0).trans A0.out
      rw [HN.out.1] at c0
      cases a5
      all_goals
        first
          | exact step_shut (wanted_shut rfl rfl d72 (by decide)) ⟨rfl, Below.refl _ _⟩
          | exact step_shut (wanted_undef rfl rfl d72) ⟨rfl, Below.refl _ _⟩
          | exact step_run' (wanted_open rfl rfl d72) (w' := w') (by go_simp) ⟨rfl, Below.refl _ _⟩
    · skip
      have d74 := hD.out 11 74 (by simp [hdep]) rfl
      rw [show vals 11 = _ from hV 11 (by simp [hdep])] at d74
      change _ = ((bif !a5 then .int .i64 kd else undef) : Value) at d74
      have d72 := hD.out 9 72 (by simp [hdep]) rfl
      rw [show vals 9 = _ from hV 9 (by simp [hdep])] at d72
      change _ = (.bool a5 : Value) at d72
      have e0 := H_ha6.out
      cases a5
      all_goals
        first
          | exact step_shut (wanted_shut rfl rfl d72 (by decide)) ⟨rfl, Below.refl _ _⟩
          | exact step_shut (wanted_undef rfl rfl d72) ⟨rfl, Below.refl _ _⟩
          | exact step_run' (wanted_open rfl rfl d72) (w' := w') (by go_simp) ⟨rfl, Below.refl _ _⟩
    · skip
      have d72 := hD.out 9 72 (by simp [hdep]) rfl
      rw [show vals 9 = _ from hV 9 (by simp [hdep])] at d72
      change _ = (.bool a5 : Value) at d72
      have d75 := hD.out 12 75 (by simp [hdep]) rfl
      rw [show vals 12 = _ from hV 12 (by simp [hdep])] at d75
      change _ = ((bif !a5 then .bool a6 else undef) : Value) at d75
      have e0 := H_hT5.out
      subst e0
      cases a5 <;> cases a6
      all_goals
        exact step_run rfl (w' := w') (by go_simp) ⟨rfl, Below.refl _ _⟩
    · skip
      exact step_run rfl (w' := w') (by go_simp) ⟨rfl, Below.refl _ _⟩
    · skip
      have d77 := hD.out 14 77 (by simp [hdep]) rfl
      rw [show vals 14 = _ from hV 14 (by simp [hdep])] at d77
      change _ = (.pointer (some ⟨q0, 0, none⟩) : Value) at d77
      have c0 := (hcell.out 0).trans A0.out
      rw [HN.out.1] at c0
      exact step_run rfl (w' := w') (by go_simp) ⟨rfl, Below.refl _ _⟩
    · skip
      have d78 := hD.out 15 78 (by simp [hdep]) rfl
      rw [show vals 15 = _ from hV 15 (by simp [hdep])] at d78
      change _ = (.int .i64 kd : Value) at d78
      have e0 := H_ha7.out
      exact step_run rfl (w' := w') (by go_simp) ⟨rfl, Below.refl _ _⟩
    · skip
      exact step_run rfl (w' := w') (by go_simp) ⟨rfl, Below.refl _ _⟩
    · skip
      have d80 := hD.out 17 80 (by simp [hdep]) rfl
      rw [show vals 17 = _ from hV 17 (by simp [hdep])] at d80
      change _ = (.pointer (some ⟨q0, 0, none⟩) : Value) at d80
      have c0 := (hcell.out 0).trans A0.out
      rw [HN.out.1] at c0
      exact step_run rfl (w' := w') (by go_simp) ⟨rfl, Below.refl _ _⟩
    · skip
      have d81 := hD.out 18 81 (by simp [hdep]) rfl
      rw [show vals 18 = _ from hV 18 (by simp [hdep])] at d81
      change _ = (.int .i64 kd : Value) at d81
      have e0 := H_ha8.out
      exact step_run rfl (w' := w') (by go_simp) ⟨rfl, Below.refl _ _⟩
    · skip
      have d82 := hD.out 19 82 (by simp [hdep]) rfl
      rw [show vals 19 = _ from hV 19 (by simp [hdep])] at d82
      change _ = (.bool a8 : Value) at d82
      exact step_run rfl (w' := w') (by go_simp) ⟨rfl, Below.refl _ _⟩
    · skip
      have d83 := hD.out 20 83 (by simp [hdep]) rfl
      rw [show vals 20 = _ from hV 20 (by simp [hdep])] at d83
      change _ = (.bool a8 : Value) at d83
      cases a8
      all_goals
        first
          | exact step_shut (wanted_shut rfl rfl d83 (by decide)) ⟨rfl, Below.refl _ _⟩
          | exact step_shut (wanted_undef rfl rfl d83) ⟨rfl, Below.refl _ _⟩
          | exact step_run' (wanted_open rfl rfl d83) (w' := w') (by go_simp) ⟨rfl, Below.refl _ _⟩
    · skip
      have d84 := hD.out 21 84 (by simp [hdep]) rfl
      rw [show vals 21 = _ from hV 21 (by simp [hdep])] at d84
      change _ = ((bif !a8 then .pointer (some ⟨q0, 0, none⟩) else undef) : Value) at d84
      have d83 := hD.out 20 83 (by simp [hdep]) rfl
      rw [show vals 20 = _ from hV 20 (by simp [hdep])] at d83
      change _ = (.bool a8 : Value) at d83
      have c0 := (hcell.out 0).trans A0.out
      rw [HN.out.1] at c0
      cases a8
      all_goals
        first
          | exact step_shut (wanted_shut rfl rfl d83 (by decide)) ⟨rfl, Below.refl _ _⟩
          | exact step_shut (wanted_undef rfl rfl d83) ⟨rfl, Below.refl _ _⟩
          | exact step_run' (wanted_open rfl rfl d83) (w' := w') (by go_simp) ⟨rfl, Below.refl _ _⟩
    · skip
      have d85 := hD.out 22 85 (by simp [hdep]) rfl
      rw [show vals 22 = _ from hV 22 (by simp [hdep])] at d85
      change _ = ((bif !a8 then .int .i64 kd else undef) : Value) at d85
      have d83 := hD.out 20 83 (by simp [hdep]) rfl
      rw [show vals 20 = _ from hV 20 (by simp [hdep])] at d83
      change _ = (.bool a8 : Value) at d83
      have e0 := H_ha9.out
      cases a8
      all_goals
        first
          | exact step_shut (wanted_shut rfl rfl d83 (by decide)) ⟨rfl, Below.refl _ _⟩
          | exact step_shut (wanted_undef rfl rfl d83) ⟨rfl, Below.refl _ _⟩
          | exact step_run' (wanted_open rfl rfl d83) (w' := w') (by go_simp) ⟨rfl, Below.refl _ _⟩
    · skip
      have d83 := hD.out 20 83 (by simp [hdep]) rfl
      rw [show vals 20 = _ from hV 20 (by simp [hdep])] at d83
      change _ = (.bool a8 : Value) at d83
      have d86 := hD.out 23 86 (by simp [hdep]) rfl
      rw [show vals 23 = _ from hV 23 (by simp [hdep])] at d86
      change _ = ((bif !a8 then .bool a9 else undef) : Value) at d86
      have e0 := H_hL8.out
      subst e0
      cases a8 <;> cases a9
      all_goals
        exact step_run rfl (w' := w') (by go_simp) ⟨rfl, Below.refl _ _⟩
    · skip
      exact step_run rfl (w' := w') (by go_simp) ⟨rfl, Below.refl _ _⟩
    · skip
      have d88 := hD.out 25 88 (by simp [hdep]) rfl
      rw [show vals 25 = _ from hV 25 (by simp [hdep])] at d88
      change _ = (.pointer (some ⟨q0, 0, none⟩) : Value) at d88
      have c0 := (hcell.out 0).trans A0.out
      rw [HN.out.1] at c0
      exact step_run rfl (w' := w') (by go_simp) ⟨rfl, Below.refl _ _⟩
    · skip
      have d89 := hD.out 26 89 (by simp [hdep]) rfl
      rw [show vals 26 = _ from hV 26 (by simp [hdep])] at d89
      change _ = (.int .i64 kd : Value) at d89
      have e0 := H_ha4.out
      exact step_run rfl (w' := w') (by go_simp) ⟨rfl, Below.refl _ _⟩
    · skip
      have d90 := hD.out 27 90 (by simp [hdep]) rfl
      rw [show vals 27 = _ from hV 27 (by simp [hdep])] at d90
      change _ = (.bool a4 : Value) at d90
      exact step_run rfl (w' := w') (by go_simp) ⟨rfl, Below.refl _ _⟩
    · skip
      have d91 := hD.out 28 91 (by simp [hdep]) rfl
      rw [show vals 28 = _ from hV 28 (by simp [hdep])] at d91
      change _ = (.bool a4 : Value) at d91
      cases a4
      all_goals
        first
          | exact step_shut (wanted_shut rfl rfl d91 (by decide)) ⟨rfl, Below.refl _ _⟩
          | exact step_shut (wanted_undef rfl rfl d91) ⟨rfl, Below.refl _ _⟩
          | exact step_run' (wanted_open rfl rfl d91) (w' := w') (by go_simp) ⟨rfl, Below.refl _ _⟩
    · skip
      have d92 := hD.out 29 92 (by simp [hdep]) rfl
      rw [show vals 29 = _ from hV 29 (by simp [hdep])] at d92
      change _ = ((bif !a4 then .pointer (some ⟨q0, 0, none⟩) else undef) : Value) at d92
      have d91 := hD.out 28 91 (by simp [hdep]) rfl
      rw [show vals 28 = _ from hV 28 (by simp [hdep])] at d91
      change _ = (.bool a4 : Value) at d91
      have c0 := (hcell.out 0).trans A0.out
      rw [HN.out.1] at c0
      cases a4
      all_goals
        first
          | exact step_shut (wanted_shut rfl rfl d91 (by decide)) ⟨rfl, Below.refl _ _⟩
          | exact step_shut (wanted_undef rfl rfl d91) ⟨rfl, Below.refl _ _⟩
          | exact step_run' (wanted_open rfl rfl d91) (w' := w') (by go_simp) ⟨rfl, Below.refl _ _⟩
    · skip
      have d93 := hD.out 30 93 (by simp [hdep]) rfl
      rw [show vals 30 = _ from hV 30 (by simp [hdep])] at d93
      change _ = ((bif !a4 then .int .i64 kd else undef) : Value) at d93
      have d91 := hD.out 28 91 (by simp [hdep]) rfl
      rw [show vals 28 = _ from hV 28 (by simp [hdep])] at d91
      change _ = (.bool a4 : Value) at d91
      have e0 := H_ha6.out
      cases a4
      all_goals
        first
          | exact step_shut (wanted_shut rfl rfl d91 (by decide)) ⟨rfl, Below.refl _ _⟩
          | exact step_shut (wanted_undef rfl rfl d91) ⟨rfl, Below.refl _ _⟩
          | exact step_run' (wanted_open rfl rfl d91) (w' := w') (by go_simp) ⟨rfl, Below.refl _ _⟩
    · skip
      have d91 := hD.out 28 91 (by simp [hdep]) rfl
      rw [show vals 28 = _ from hV 28 (by simp [hdep])] at d91
      change _ = (.bool a4 : Value) at d91
      have d94 := hD.out 31 94 (by simp [hdep]) rfl
      rw [show vals 31 = _ from hV 31 (by simp [hdep])] at d94
      change _ = ((bif !a4 then .bool a6 else undef) : Value) at d94
      have e0 := H_hM4.out
      subst e0
      cases a4 <;> cases a6
      all_goals
        exact step_run rfl (w' := w') (by go_simp) ⟨rfl, Below.refl _ _⟩
    · skip
      have d65 := hD.out 2 65 (by simp [hdep]) rfl
      rw [show vals 2 = _ from hV 2 (by simp [hdep])] at d65
      change _ = (.bool a1 : Value) at d65
      exact step_run rfl (w' := w') (by go_simp) ⟨rfl, Below.refl _ _⟩
    · skip
      have d68 := hD.out 5 68 (by simp [hdep]) rfl
      rw [show vals 5 = _ from hV 5 (by simp [hdep])] at d68
      change _ = (.bool a2 : Value) at d68
      exact step_run rfl (w' := w') (by go_simp) ⟨rfl, Below.refl _ _⟩
    · skip
      have d76 := hD.out 13 76 (by simp [hdep]) rfl
      rw [show vals 13 = _ from hV 13 (by simp [hdep])] at d76
      change _ = (.bool T5 : Value) at d76
      exact step_run rfl (w' := w') (by go_simp) ⟨rfl, Below.refl _ _⟩
    · skip
      have d79 := hD.out 16 79 (by simp [hdep]) rfl
      rw [show vals 16 = _ from hV 16 (by simp [hdep])] at d79
      change _ = (.bool a7 : Value) at d79
      exact step_run rfl (w' := w') (by go_simp) ⟨rfl, Below.refl _ _⟩
    · skip
      have d87 := hD.out 24 87 (by simp [hdep]) rfl
      rw [show vals 24 = _ from hV 24 (by simp [hdep])] at d87
      change _ = (.bool L8 : Value) at d87
      exact step_run rfl (w' := w') (by go_simp) ⟨rfl, Below.refl _ _⟩
    · skip
      have d95 := hD.out 32 95 (by simp [hdep]) rfl
      rw [show vals 32 = _ from hV 32 (by simp [hdep])] at d95
      change _ = (.bool M4 : Value) at d95
      exact step_run rfl (w' := w') (by go_simp) ⟨rfl, Below.refl _ _⟩
  · intro vals w1 hB hV
    have e0 : vals 0 = _ := hV 0 (by decide)
    change _ = (.pointer (some ⟨q0, 0, none⟩) : Value) at e0
    have e1 : vals 1 = _ := hV 1 (by decide)
    change _ = (.int .i64 kd : Value) at e1
    have e2 : vals 2 = _ := hV 2 (by decide)
    change _ = (.bool a1 : Value) at e2
    have e3 : vals 3 = _ := hV 3 (by decide)
    change _ = (.pointer (some ⟨q0, 0, none⟩) : Value) at e3
    have e4 : vals 4 = _ := hV 4 (by decide)
    change _ = (.int .i64 kd : Value) at e4
    have e5 : vals 5 = _ := hV 5 (by decide)
    change _ = (.bool a2 : Value) at e5
    have e6 : vals 6 = _ := hV 6 (by decide)
    change _ = (.pointer (some ⟨q0, 0, none⟩) : Value) at e6
    have e7 : vals 7 = _ := hV 7 (by decide)
    change _ = (.int .i64 kd : Value) at e7
    have e8 : vals 8 = _ := hV 8 (by decide)
    change _ = (.bool a5 : Value) at e8
    have e9 : vals 9 = _ := hV 9 (by decide)
    change _ = (.bool a5 : Value) at e9
    have e10 : vals 10 = _ := hV 10 (by decide)
    change _ = ((bif !a5 then .pointer (some ⟨q0, 0, none⟩) else undef) : Value) at e10
    have e11 : vals 11 = _ := hV 11 (by decide)
    change _ = ((bif !a5 then .int .i64 kd else undef) : Value) at e11
    have e12 : vals 12 = _ := hV 12 (by decide)
    change _ = ((bif !a5 then .bool a6 else undef) : Value) at e12
    have e13 : vals 13 = _ := hV 13 (by decide)
    change _ = (.bool T5 : Value) at e13
    have e14 : vals 14 = _ := hV 14 (by decide)
    change _ = (.pointer (some ⟨q0, 0, none⟩) : Value) at e14
    have e15 : vals 15 = _ := hV 15 (by decide)
    change _ = (.int .i64 kd : Value) at e15
    have e16 : vals 16 = _ := hV 16 (by decide)
    change _ = (.bool a7 : Value) at e16
    have e17 : vals 17 = _ := hV 17 (by decide)
    change _ = (.pointer (some ⟨q0, 0, none⟩) : Value) at e17
    have e18 : vals 18 = _ := hV 18 (by decide)
    change _ = (.int .i64 kd : Value) at e18
    have e19 : vals 19 = _ := hV 19 (by decide)
    change _ = (.bool a8 : Value) at e19
    have e20 : vals 20 = _ := hV 20 (by decide)
    change _ = (.bool a8 : Value) at e20
    have e21 : vals 21 = _ := hV 21 (by decide)
    change _ = ((bif !a8 then .pointer (some ⟨q0, 0, none⟩) else undef) : Value) at e21
    have e22 : vals 22 = _ := hV 22 (by decide)
    change _ = ((bif !a8 then .int .i64 kd else undef) : Value) at e22
    have e23 : vals 23 = _ := hV 23 (by decide)
    change _ = ((bif !a8 then .bool a9 else undef) : Value) at e23
    have e24 : vals 24 = _ := hV 24 (by decide)
    change _ = (.bool L8 : Value) at e24
    have e25 : vals 25 = _ := hV 25 (by decide)
    change _ = (.pointer (some ⟨q0, 0, none⟩) : Value) at e25
    have e26 : vals 26 = _ := hV 26 (by decide)
    change _ = (.int .i64 kd : Value) at e26
    have e27 : vals 27 = _ := hV 27 (by decide)
    change _ = (.bool a4 : Value) at e27
    have e28 : vals 28 = _ := hV 28 (by decide)
    change _ = (.bool a4 : Value) at e28
    have e29 : vals 29 = _ := hV 29 (by decide)
    change _ = ((bif !a4 then .pointer (some ⟨q0, 0, none⟩) else undef) : Value) at e29
    have e30 : vals 30 = _ := hV 30 (by decide)
    change _ = ((bif !a4 then .int .i64 kd else undef) : Value) at e30
    have e31 : vals 31 = _ := hV 31 (by decide)
    change _ = ((bif !a4 then .bool a6 else undef) : Value) at e31
    have e32 : vals 32 = _ := hV 32 (by decide)
    change _ = (.bool M4 : Value) at e32
    have e33 : vals 33 = _ := hV 33 (by decide)
    change _ = (.bool a1 : Value) at e33
    have e34 : vals 34 = _ := hV 34 (by decide)
    change _ = (.bool a2 : Value) at e34
    have e35 : vals 35 = _ := hV 35 (by decide)
    change _ = (.bool T5 : Value) at e35
    have e36 : vals 36 = _ := hV 36 (by decide)
    change _ = (.bool a7 : Value) at e36
    have e37 : vals 37 = _ := hV 37 (by decide)
    change _ = (.bool L8 : Value) at e37
    have e38 : vals 38 = _ := hV 38 (by decide)
    change _ = (.bool M4 : Value) at e38
    have HB_1 := Lib.hid hB
    simp only [putsL, Act.put, List.setIfInBounds_toArray, List.set_cons_zero, List.set_cons_succ, e0, e1, e2, e3, e4, e5, e6, e7, e8, e9, e10, e11, e12, e13, e14, e15, e16, e17, e18, e19, e20, e21, e22, e23, e24, e25, e26, e27, e28, e29, e30, e31, e32, e33, e34, e35, e36, e37, e38]
    clear e0 e1 e2 e3 e4 e5 e6 e7 e8 e9 e10 e11 e12 e13 e14 e15 e16 e17 e18 e19 e20 e21 e22 e23 e24 e25 e26 e27 e28 e29 e30 e31 e32 e33 e34 e35 e36 e37 e38 hB hV
    go_upto_region 4 with fail
    have hcl : (a1 = true ∧ a2 = false ∧ T5 = false ∧ a7 = false ∧ L8 = false ∧ M4 = false) ∨ (a1 = false ∧ a2 = true ∧ T5 = false ∧ a7 = false ∧ L8 = false ∧ M4 = false) ∨ (a1 = false ∧ a2 = false ∧ T5 = false ∧ a7 = false ∧ L8 = false ∧ M4 = false) ∨ (a1 = false ∧ a2 = false ∧ T5 = false ∧ a7 = false ∧ L8 = false ∧ M4 = true) ∨ (a1 = false ∧ a2 = false ∧ T5 = true ∧ a7 = false ∧ L8 = false ∧ M4 = false) ∨ (a1 = false ∧ a2 = false ∧ T5 = true ∧ a7 = false ∧ L8 = false ∧ M4 = true) ∨ (a1 = false ∧ a2 = false ∧ T5 = false ∧ a7 = true ∧ L8 = false ∧ M4 = false) ∨ (a1 = false ∧ a2 = false ∧ T5 = false ∧ a7 = true ∧ L8 = true ∧ M4 = false) := by
      have h1 := H_ha1.out; have h2 := H_ha2.out; have h4 := H_ha4.out; have h5 := H_ha5.out; have h6 := H_ha6.out; have h7 := H_ha7.out; have h8 := H_ha8.out; have h9 := H_ha9.out; have hT := H_hT5.out; have hL := H_hL8.out; have hM := H_hM4.out
      have hk := HKD.out
      obtain h | h | h | h | h | h | h | h | h | h | h | h : kd = 1 ∨ kd = 2 ∨ kd = 3 ∨ kd = 4 ∨ kd = 5 ∨ kd = 6 ∨ kd = 7 ∨ kd = 8 ∨ kd = 9 ∨ kd = 10 ∨ kd = 11 ∨ kd = 12 := by omega
      all_goals
        rw [h] at h1 h2 h4 h5 h6 h7 h8 h9
        subst h1 h2 h4 h5 h6 h7 h8 h9
        subst hT hL hM
        decide
    go_cut [171] from 96 to 171 (fun vv wx => ∃ bv : Bool, vv = .bool bv ∧ Hid (bv = false → (a1 = true ∨ qa = true) ∧ (a2 = true ∨ sR = true) ∧ (T5 = true ∨ (tk == 0) = true) ∧ (a7 = true ∨ (qs = true ∧ (ep == 0) = true)) ∧ (L8 = true ∨ (decide ((0 : Int) < (NL : Int)) = false ∧ decide ((0 : Int) < (NK : Int)) = false)) ∧ (M4 = true ∨ ((n.ae == 0) = true ∧ decide ((0 : Int) < (NH : Int)) = false))) ∧ Hid (Below W.heap.size W wx))
    case first =>
      have HEND := Lib.hid (show ∀ wx, Below W.heap.size W wx → ∃ bv1 : Bool, Value.bool P6 = .bool bv1 ∧ Hid (bv1 = false → (a1 = true ∨ qa = true) ∧ (a2 = true ∨ sR = true) ∧ (T5 = true ∨ (tk == 0) = true) ∧ (a7 = true ∨ (qs = true ∧ (ep == 0) = true)) ∧ (L8 = true ∨ (decide ((0 : Int) < (NL : Int)) = false ∧ decide ((0 : Int) < (NK : Int)) = false)) ∧ (M4 = true ∨ ((n.ae == 0) = true ∧ decide ((0 : Int) < (NH : Int)) = false))) ∧ Hid (Below W.heap.size W wx) from fun wx hw => ⟨P6, rfl, Lib.hid (fun h0 => by
        have e6 := H_hP6.out
        rw [h0, Bool.or_eq_false_iff] at e6
        have e5 := H_hP5.out
        rw [e6.1, Bool.or_eq_false_iff] at e5
        have e4 := H_hP4.out
        rw [e5.1, Bool.or_eq_false_iff] at e4
        have e3 := H_hP3.out
        rw [e4.1, Bool.or_eq_false_iff] at e3
        have e2 := H_hP2.out
        rw [e3.1, Bool.or_eq_false_iff] at e2
        have e1 := H_hP1.out
        rw [e2.1] at e1
        have x2 := e2.2
        have x3 := e3.2
        have x4 := e4.2
        have x5 := e5.2
        have x6 := e6.2
        rw [← H_hnA.out] at e1
        rw [← H_hnT.out] at x3
        rw [← H_hnS.out, ← H_hnE.out] at x4
        rw [← H_hnL.out, ← H_hnK.out] at x5
        rw [← H_hnM.out, ← H_hnH.out] at x6
        exact ⟨and_no e1, and_no x2, and_no x3, and_no2 x4, and_no3 x5, and_no4 x6⟩), Lib.hid hw⟩)
      simp only [List.append]
      refine wp_region_seq (by kernel_rfl) [VP.eq (.bool a1), VP.eq (.bool (!a1)), VP.eq (.bool (!a1)), VP.eq ((bif (!a1) then .pointer (some ⟨q0, 5, none⟩) else undef)), VP.eq ((bif (!a1) then .agg #[.int .i64 n.ask.d, .int .i64 n.ask.c, .int .i64 n.ask.s, .string (strB n.ask.t), .string (strB n.ask.v), .string (strB n.ask.f), .string (strB n.ask.u), .int .i64 n.ask.m] else undef)), VP.eq ((bif (!a1) then .agg #[.int .i64 0, .int .i64 0, .int .i64 0, .string ⟨#[]⟩, .string ⟨#[]⟩, .string ⟨#[]⟩, .string ⟨#[]⟩, .int .i64 0] else undef)), VP.eq ((bif (!a1) then .bool nA else undef)), VP.eq (.bool P1), VP.eq (.bool P1), VP.eq ((bif !P1 then .bool a2 else undef)), VP.eq ((bif !P1 then .bool (!a2) else undef)), VP.eq ((bif !P1 then .bool (!a2) else undef)), VP.eq ((bif (!P1 && (!a2)) then .pointer (some ⟨q0, 13, none⟩) else undef)), VP.eq ((bif (!P1 && (!a2)) then .agg #[.int .i64 n.rep.c, .int .i64 n.rep.s, .int .i64 n.rep.e, .bool n.rep.fd, .string (strB n.rep.v), .slice P.rp n.rep.ls.length P.rk, .string (strB n.rep.nx), .bool n.rep.mr] else undef)), VP.eq ((bif (!P1 && (!a2)) then .agg #[.int .i64 0, .int .i64 0, .int .i64 0, .bool false, .string ⟨#[]⟩, .slice none 0 0, .string ⟨#[]⟩, .bool false] else undef)), VP.eq ((bif (!P1 && (!a2)) then .bool sR else undef)), VP.eq ((bif (!P1 && (!a2)) then .bool (!sR) else undef)), VP.eq ((bif !P1 then .bool (!a2 && !sR) else undef)), VP.eq (.bool P2), VP.eq (.bool P2), VP.eq ((bif !P2 then .bool T5 else undef)), VP.eq ((bif !P2 then .bool (!T5) else undef)), VP.eq ((bif !P2 then .bool (!T5) else undef)), VP.eq ((bif (!P2 && (!T5)) then .pointer (some ⟨q0, 4, none⟩) else undef)), VP.eq ((bif (!P2 && (!T5)) then .int .i64 tk else undef)), VP.eq ((bif (!P2 && (!T5)) then .bool nT else undef)), VP.eq ((bif !P2 then .bool (!T5 && nT) else undef)), VP.eq (.bool P3), VP.eq (.bool P3), VP.eq ((bif !P3 then .bool a7 else undef)), VP.eq ((bif !P3 then .bool (!a7) else undef)), VP.eq ((bif !P3 then .bool (!a7) else undef)), VP.eq ((bif (!P3 && (!a7)) then .pointer (some ⟨q0, 21, none⟩) else undef)), VP.eq ((bif (!P3 && (!a7)) then .agg #[.string (strB n.sf), .string (strB n.st)] else undef)), VP.eq ((bif (!P3 && (!a7)) then .agg #[.string ⟨#[]⟩, .string ⟨#[]⟩] else undef)), VP.eq ((bif (!P3 && (!a7)) then .bool nS else undef)), VP.eq ((bif (!P3 && (!a7)) then .bool nS else undef)), VP.eq ((bif ((!P3 && (!a7)) && !nS) then .pointer (some ⟨q0, 3, none⟩) else undef)), VP.eq ((bif ((!P3 && (!a7)) && !nS) then .int .i64 ep else undef)), VP.eq ((bif ((!P3 && (!a7)) && !nS) then .bool nE else undef)), VP.eq ((bif (!P3 && (!a7)) then .bool (nS || nE) else undef)), VP.eq ((bif !P3 then .bool (!a7 && (nS || nE)) else undef)), VP.eq (.bool P4), VP.eq (.bool P4), VP.eq ((bif !P4 then .bool L8 else undef)), VP.eq ((bif !P4 then .bool (!L8) else undef)), VP.eq ((bif !P4 then .bool (!L8) else undef)), VP.eq ((bif (!P4 && (!L8)) then .pointer (some ⟨q0, 23, none⟩) else undef)), VP.eq ((bif (!P4 && (!L8)) then .slice P.lp NL P.lk else undef)), VP.eq ((bif (!P4 && (!L8)) then .int .i64 (NL : Nat) else undef)), VP.eq ((bif (!P4 && (!L8)) then .bool nL else undef)), VP.eq ((bif (!P4 && (!L8)) then .bool nL else undef)), VP.eq ((bif ((!P4 && (!L8)) && !nL) then .pointer (some ⟨q0, 24, none⟩) else undef)), VP.eq ((bif ((!P4 && (!L8)) && !nL) then .slice P.ap NK P.ak else undef)), VP.eq ((bif ((!P4 && (!L8)) && !nL) then .int .i64 (NK : Nat) else undef)), VP.eq ((bif ((!P4 && (!L8)) && !nL) then .bool nK else undef)), VP.eq ((bif (!P4 && (!L8)) then .bool (nL || nK) else undef)), VP.eq ((bif !P4 then .bool (!L8 && (nL || nK)) else undef)), VP.eq (.bool P5), VP.eq (.bool P5), VP.eq ((bif !P5 then .bool M4 else undef)), VP.eq ((bif !P5 then .bool (!M4) else undef)), VP.eq ((bif !P5 then .bool (!M4) else undef)), VP.eq ((bif (!P5 && (!M4)) then .pointer (some ⟨q0, 25, none⟩) else undef)), VP.eq ((bif (!P5 && (!M4)) then .pointer (some ⟨q0, 25, none⟩) else undef)), VP.eq ((bif (!P5 && (!M4)) then .int .i64 n.ae else undef)), VP.eq ((bif (!P5 && (!M4)) then .bool nM else undef)), VP.eq ((bif (!P5 && (!M4)) then .bool nM else undef)), VP.eq ((bif ((!P5 && (!M4)) && !nM) then .pointer (some ⟨q0, 25, none⟩) else undef)), VP.eq ((bif ((!P5 && (!M4)) && !nM) then .pointer (some ⟨q0, 26, none⟩) else undef)), VP.eq ((bif ((!P5 && (!M4)) && !nM) then .slice P.hp NH P.hk else undef)), VP.eq ((bif ((!P5 && (!M4)) && !nM) then .int .i64 (NH : Nat) else undef)), VP.eq ((bif ((!P5 && (!M4)) && !nM) then .bool nH else undef)), VP.eq ((bif (!P5 && (!M4)) then .bool (nM || nH) else undef)), VP.eq ((bif !P5 then .bool (!M4 && (nM || nH)) else undef)), VP.eq (.bool P6)] ?_ ?_
      · intro i opr Ls vals w' hi hL' hdep hC hB hV
        have hlt : i < 76 := by have := (List.getElem?_eq_some_iff.1 hi).1; simpa using this
        generalize hA : frA _ _ Ls vals = a'
        have hT1 : a'.tmps.getD 1 undef = .pointer (some ⟨q0, 0, none⟩) := by rw [← hA, frA_base (by kernel_rfl)]; rfl
        have hT3 : a'.tmps.getD 3 undef = .bool a1 := by rw [← hA, frA_base (by kernel_rfl)]; rfl
        have hT4 : a'.tmps.getD 4 undef = .bool a2 := by rw [← hA, frA_base (by kernel_rfl)]; rfl
        have hT5 : a'.tmps.getD 5 undef = .bool T5 := by rw [← hA, frA_base (by kernel_rfl)]; rfl
        have hT6 : a'.tmps.getD 6 undef = .bool a7 := by rw [← hA, frA_base (by kernel_rfl)]; rfl
        have hT7 : a'.tmps.getD 7 undef = .bool L8 := by rw [← hA, frA_base (by kernel_rfl)]; rfl
        have hT8 : a'.tmps.getD 8 undef = .bool M4 := by rw [← hA, frA_base (by kernel_rfl)]; rfl
        have hD := Lib.hid (fun k t (hk : Ls k = true) (ht : dstOf _ k = some t) => hA ▸ frA_done (by kernel_rfl) (vals := vals) hk ht)
        clear hA
        have hcell := Lib.hid (fun i => HC.out w' (HB_1.out.trans (hB.mono HB_1.out.size)) i)
        obtain rfl | rfl | rfl | rfl | rfl | rfl | rfl | rfl | rfl | rfl | rfl | rfl | rfl | rfl | rfl | rfl | rfl | rfl | rfl | rfl | rfl | rfl | rfl | rfl | rfl | rfl | rfl | rfl | rfl | rfl | rfl | rfl | rfl | rfl | rfl | rfl | rfl | rfl | rfl | rfl | rfl | rfl | rfl | rfl | rfl | rfl | rfl | rfl | rfl | rfl | rfl | rfl | rfl | rfl | rfl | rfl | rfl | rfl | rfl | rfl | rfl | rfl | rfl | rfl | rfl | rfl | rfl | rfl | rfl | rfl | rfl | rfl | rfl | rfl | rfl | rfl : i = 0 ∨ i = 1 ∨ i = 2 ∨ i = 3 ∨ i = 4 ∨ i = 5 ∨ i = 6 ∨ i = 7 ∨ i = 8 ∨ i = 9 ∨ i = 10 ∨ i = 11 ∨ i = 12 ∨ i = 13 ∨ i = 14 ∨ i = 15 ∨ i = 16 ∨ i = 17 ∨ i = 18 ∨ i = 19 ∨ i = 20 ∨ i = 21 ∨ i = 22 ∨ i = 23 ∨ i = 24 ∨ i = 25 ∨ i = 26 ∨ i = 27 ∨ i = 28 ∨ i = 29 ∨ i = 30 ∨ i = 31 ∨ i = 32 ∨ i = 33 ∨ i = 34 ∨ i = 35 ∨ i = 36 ∨ i = 37 ∨ i = 38 ∨ i = 39 ∨ i = 40 ∨ i = 41 ∨ i = 42 ∨ i = 43 ∨ i = 44 ∨ i = 45 ∨ i = 46 ∨ i = 47 ∨ i = 48 ∨ i = 49 ∨ i = 50 ∨ i = 51 ∨ i = 52 ∨ i = 53 ∨ i = 54 ∨ i = 55 ∨ i = 56 ∨ i = 57 ∨ i = 58 ∨ i = 59 ∨ i = 60 ∨ i = 61 ∨ i = 62 ∨ i = 63 ∨ i = 64 ∨ i = 65 ∨ i = 66 ∨ i = 67 ∨ i = 68 ∨ i = 69 ∨ i = 70 ∨ i = 71 ∨ i = 72 ∨ i = 73 ∨ i = 74 ∨ i = 75 := by omega
        all_goals
          injection hi with hi
          subst hi
          try simp [Region.binds] at hdep
        · skip
          exact step_run rfl (w' := w') (by go_simp) ⟨rfl, Below.refl _ _⟩
        · skip
          have d96 := hD.out 0 96 (by simp [hdep]) rfl
          rw [show vals 0 = _ from hV 0 (by simp [hdep])] at d96
          change _ = (.bool a1 : Value) at d96
          cases a1
          all_goals
            exact step_run rfl (w' := w') (by go_simp) ⟨rfl, Below.refl _ _⟩
        · skip
          have d97 := hD.out 1 97 (by simp [hdep]) rfl
          rw [show vals 1 = _ from hV 1 (by simp [hdep])] at d97
          change _ = (.bool (!a1) : Value) at d97
          exact step_run rfl (w' := w') (by go_simp) ⟨rfl, Below.refl _ _⟩
        · skip
          have d98 := hD.out 2 98 (by simp [hdep]) rfl
          rw [show vals 2 = _ from hV 2 (by simp [hdep])] at d98
          change _ = (.bool (!a1) : Value) at d98
          cases a1
          all_goals
            first
              | exact step_shut (wanted_shut rfl rfl d98 (by decide)) ⟨rfl, Below.refl _ _⟩
              | exact step_shut (wanted_undef rfl rfl d98) ⟨rfl, Below.refl _ _⟩
              | exact step_run' (wanted_open rfl rfl d98) (w' := w') (by go_simp) ⟨rfl, Below.refl _ _⟩
        · skip
          have d99 := hD.out 3 99 (by simp [hdep]) rfl
          rw [show vals 3 = _ from hV 3 (by simp [hdep])] at d99
          change _ = ((bif (!a1) then .pointer (some ⟨q0, 5, none⟩) else undef) : Value) at d99
          have d98 := hD.out 2 98 (by simp [hdep]) rfl
          rw [show vals 2 = _ from hV 2 (by simp [hdep])] at d98
          change _ = (.bool (!a1) : Value) at d98
          have c5 := (hcell.out 5).trans A5.out
          have c6 := (hcell.out 6).trans A6.out
          have c7 := (hcell.out 7).trans A7.out
          have c8 := (hcell.out 8).trans A8.out
          have c9 := (hcell.out 9).trans A9.out
          have c10 := (hcell.out 10).trans A10.out
          have c11 := (hcell.out 11).trans A11.out
          have c12 := (hcell.out 12).trans A12.out
          cases a1
          all_goals
            first
              | exact step_shut (wanted_shut rfl rfl d98 (by decide)) ⟨rfl, Below.refl _ _⟩
              | exact step_shut (wanted_undef rfl rfl d98) ⟨rfl, Below.refl _ _⟩
              | exact step_run' (wanted_open rfl rfl d98) (w' := w') (by go_simp) ⟨rfl, Below.refl _ _⟩
        · skip
          have d98 := hD.out 2 98 (by simp [hdep]) rfl
          rw [show vals 2 = _ from hV 2 (by simp [hdep])] at d98
          change _ = (.bool (!a1) : Value) at d98
          cases a1
          all_goals
            first
              | exact step_shut (wanted_shut rfl rfl d98 (by decide)) ⟨rfl, Below.refl _ _⟩
              | exact step_shut (wanted_undef rfl rfl d98) ⟨rfl, Below.refl _ _⟩
              | exact step_run' (wanted_open rfl rfl d98) (w' := w') (by go_simp) ⟨rfl, Below.refl _ _⟩
        · skip
          have d100 := hD.out 4 100 (by simp [hdep]) rfl
          rw [show vals 4 = _ from hV 4 (by simp [hdep])] at d100
          change _ = ((bif (!a1) then .agg #[.int .i64 n.ask.d, .int .i64 n.ask.c, .int .i64 n.ask.s, .string (strB n.ask.t), .string (strB n.ask.v), .string (strB n.ask.f), .string (strB n.ask.u), .int .i64 n.ask.m] else undef) : Value) at d100
          have d101 := hD.out 5 101 (by simp [hdep]) rfl
          rw [show vals 5 = _ from hV 5 (by simp [hdep])] at d101
          change _ = ((bif (!a1) then .agg #[.int .i64 0, .int .i64 0, .int .i64 0, .string ⟨#[]⟩, .string ⟨#[]⟩, .string ⟨#[]⟩, .string ⟨#[]⟩, .int .i64 0] else undef) : Value) at d101
          have d98 := hD.out 2 98 (by simp [hdep]) rfl
          rw [show vals 2 = _ from hV 2 (by simp [hdep])] at d98
          change _ = (.bool (!a1) : Value) at d98
          have e0 := H_hnA.out
          have e1 := HEA.out
          cases a1
          all_goals
            first
              | exact step_shut (wanted_shut rfl rfl d98 (by decide)) ⟨rfl, Below.refl _ _⟩
              | exact step_shut (wanted_undef rfl rfl d98) ⟨rfl, Below.refl _ _⟩
              | exact step_run' (wanted_open rfl rfl d98) (w' := w') (by go_simp) ⟨rfl, Below.refl _ _⟩
        · skip
          have d98 := hD.out 2 98 (by simp [hdep]) rfl
          rw [show vals 2 = _ from hV 2 (by simp [hdep])] at d98
          change _ = (.bool (!a1) : Value) at d98
          have d102 := hD.out 6 102 (by simp [hdep]) rfl
          rw [show vals 6 = _ from hV 6 (by simp [hdep])] at d102
          change _ = ((bif (!a1) then .bool nA else undef) : Value) at d102
          have e0 := H_hP1.out
          subst e0
          cases a1 <;> cases nA
          all_goals
            exact step_run rfl (w' := w') (by go_simp) ⟨rfl, Below.refl _ _⟩
        · skip
          have d103 := hD.out 7 103 (by simp [hdep]) rfl
          rw [show vals 7 = _ from hV 7 (by simp [hdep])] at d103
          change _ = (.bool P1 : Value) at d103
          exact step_run rfl (w' := w') (by go_simp) ⟨rfl, Below.refl _ _⟩
        · skip
          have d104 := hD.out 8 104 (by simp [hdep]) rfl
          rw [show vals 8 = _ from hV 8 (by simp [hdep])] at d104
          change _ = (.bool P1 : Value) at d104
          cases P1
          all_goals
            first
              | exact step_shut (wanted_shut rfl rfl d104 (by decide)) ⟨rfl, Below.refl _ _⟩
              | exact step_shut (wanted_undef rfl rfl d104) ⟨rfl, Below.refl _ _⟩
              | exact step_run' (wanted_open rfl rfl d104) (w' := w') (by go_simp) ⟨rfl, Below.refl _ _⟩
        · skip
          have d105 := hD.out 9 105 (by simp [hdep]) rfl
          rw [show vals 9 = _ from hV 9 (by simp [hdep])] at d105
          change _ = ((bif !P1 then .bool a2 else undef) : Value) at d105
          have d104 := hD.out 8 104 (by simp [hdep]) rfl
          rw [show vals 8 = _ from hV 8 (by simp [hdep])] at d104
          change _ = (.bool P1 : Value) at d104
          cases P1 <;> cases a2
          all_goals
            first
              | exact step_shut (wanted_shut rfl rfl d104 (by decide)) ⟨rfl, Below.refl _ _⟩
              | exact step_shut (wanted_undef rfl rfl d104) ⟨rfl, Below.refl _ _⟩
              | exact step_run' (wanted_open rfl rfl d104) (w' := w') (by go_simp) ⟨rfl, Below.refl _ _⟩
        · skip
          have d106 := hD.out 10 106 (by simp [hdep]) rfl
          rw [show vals 10 = _ from hV 10 (by simp [hdep])] at d106
          change _ = ((bif !P1 then .bool (!a2) else undef) : Value) at d106
          have d104 := hD.out 8 104 (by simp [hdep]) rfl
          rw [show vals 8 = _ from hV 8 (by simp [hdep])] at d104
          change _ = (.bool P1 : Value) at d104
          cases P1
          all_goals
            first
              | exact step_shut (wanted_shut rfl rfl d104 (by decide)) ⟨rfl, Below.refl _ _⟩
              | exact step_shut (wanted_undef rfl rfl d104) ⟨rfl, Below.refl _ _⟩
              | exact step_run' (wanted_open rfl rfl d104) (w' := w') (by go_simp) ⟨rfl, Below.refl _ _⟩
        · skip
          have d107 := hD.out 11 107 (by simp [hdep]) rfl
          rw [show vals 11 = _ from hV 11 (by simp [hdep])] at d107
          change _ = ((bif !P1 then .bool (!a2) else undef) : Value) at d107
          cases a2 <;> cases P1
          all_goals
            first
              | exact step_shut (wanted_shut rfl rfl d107 (by decide)) ⟨rfl, Below.refl _ _⟩
              | exact step_shut (wanted_undef rfl rfl d107) ⟨rfl, Below.refl _ _⟩
              | exact step_run' (wanted_open rfl rfl d107) (w' := w') (by go_simp) ⟨rfl, Below.refl _ _⟩
        · skip
          have d108 := hD.out 12 108 (by simp [hdep]) rfl
          rw [show vals 12 = _ from hV 12 (by simp [hdep])] at d108
          change _ = ((bif (!P1 && (!a2)) then .pointer (some ⟨q0, 13, none⟩) else undef) : Value) at d108
          have d107 := hD.out 11 107 (by simp [hdep]) rfl
          rw [show vals 11 = _ from hV 11 (by simp [hdep])] at d107
          change _ = ((bif !P1 then .bool (!a2) else undef) : Value) at d107
          have c13 := (hcell.out 13).trans A13.out
          have c14 := (hcell.out 14).trans A14.out
          have c15 := (hcell.out 15).trans A15.out
          have c16 := (hcell.out 16).trans A16.out
          have c17 := (hcell.out 17).trans A17.out
          have c18 := (hcell.out 18).trans A18.out
          have c19 := (hcell.out 19).trans A19.out
          have c20 := (hcell.out 20).trans A20.out
          cases a2 <;> cases P1
          all_goals
            first
              | exact step_shut (wanted_shut rfl rfl d107 (by decide)) ⟨rfl, Below.refl _ _⟩
              | exact step_shut (wanted_undef rfl rfl d107) ⟨rfl, Below.refl _ _⟩
              | exact step_run' (wanted_open rfl rfl d107) (w' := w') (by go_simp) ⟨rfl, Below.refl _ _⟩
        · skip
          have d107 := hD.out 11 107 (by simp [hdep]) rfl
          rw [show vals 11 = _ from hV 11 (by simp [hdep])] at d107
          change _ = ((bif !P1 then .bool (!a2) else undef) : Value) at d107
          cases a2 <;> cases P1
          all_goals
            first
              | exact step_shut (wanted_shut rfl rfl d107 (by decide)) ⟨rfl, Below.refl _ _⟩
              | exact step_shut (wanted_undef rfl rfl d107) ⟨rfl, Below.refl _ _⟩
              | exact step_run' (wanted_open rfl rfl d107) (w' := w') (by go_simp) ⟨rfl, Below.refl _ _⟩
        · skip
          have d109 := hD.out 13 109 (by simp [hdep]) rfl
          rw [show vals 13 = _ from hV 13 (by simp [hdep])] at d109
          change _ = ((bif (!P1 && (!a2)) then .agg #[.int .i64 n.rep.c, .int .i64 n.rep.s, .int .i64 n.rep.e, .bool n.rep.fd, .string (strB n.rep.v), .slice P.rp n.rep.ls.length P.rk, .string (strB n.rep.nx), .bool n.rep.mr] else undef) : Value) at d109
          have d110 := hD.out 14 110 (by simp [hdep]) rfl
          rw [show vals 14 = _ from hV 14 (by simp [hdep])] at d110
          change _ = ((bif (!P1 && (!a2)) then .agg #[.int .i64 0, .int .i64 0, .int .i64 0, .bool false, .string ⟨#[]⟩, .slice none 0 0, .string ⟨#[]⟩, .bool false] else undef) : Value) at d110
          have d107 := hD.out 11 107 (by simp [hdep]) rfl
          rw [show vals 11 = _ from hV 11 (by simp [hdep])] at d107
          change _ = ((bif !P1 then .bool (!a2) else undef) : Value) at d107
          cases a2 <;> cases P1
          all_goals
            first
              | exact step_shut (wanted_shut rfl rfl d107 (by decide)) ⟨rfl, Below.refl _ _⟩
              | exact step_shut (wanted_undef rfl rfl d107) ⟨rfl, Below.refl _ _⟩
              | exact step_enter' (wanted_open rfl rfl d107) (f := 16) (w' := w') (by go_simp) ((CSR.out w' (HB_1.out.trans (hB.mono HB_1.out.size))).mono fun e w'' ⟨he, hb⟩ => ⟨_, he, rfl, hb⟩)
        · skip
          have d111 := hD.out 15 111 (by simp [hdep]) rfl
          rw [show vals 15 = _ from hV 15 (by simp [hdep])] at d111
          change _ = ((bif (!P1 && (!a2)) then .bool sR else undef) : Value) at d111
          have d107 := hD.out 11 107 (by simp [hdep]) rfl
          rw [show vals 11 = _ from hV 11 (by simp [hdep])] at d107
          change _ = ((bif !P1 then .bool (!a2) else undef) : Value) at d107
          cases a2 <;> cases P1 <;> cases sR
          all_goals
            first
              | exact step_shut (wanted_shut rfl rfl d107 (by decide)) ⟨rfl, Below.refl _ _⟩
              | exact step_shut (wanted_undef rfl rfl d107) ⟨rfl, Below.refl _ _⟩
              | exact step_run' (wanted_open rfl rfl d107) (w' := w') (by go_simp) ⟨rfl, Below.refl _ _⟩
        · skip
          have d107 := hD.out 11 107 (by simp [hdep]) rfl
          rw [show vals 11 = _ from hV 11 (by simp [hdep])] at d107
          change _ = ((bif !P1 then .bool (!a2) else undef) : Value) at d107
          have d112 := hD.out 16 112 (by simp [hdep]) rfl
          rw [show vals 16 = _ from hV 16 (by simp [hdep])] at d112
          change _ = ((bif (!P1 && (!a2)) then .bool (!sR) else undef) : Value) at d112
          have d104 := hD.out 8 104 (by simp [hdep]) rfl
          rw [show vals 8 = _ from hV 8 (by simp [hdep])] at d104
          change _ = (.bool P1 : Value) at d104
          cases P1 <;> cases a2 <;> cases sR
          all_goals
            first
              | exact step_shut (wanted_shut rfl rfl d104 (by decide)) ⟨rfl, Below.refl _ _⟩
              | exact step_shut (wanted_undef rfl rfl d104) ⟨rfl, Below.refl _ _⟩
              | exact step_run' (wanted_open rfl rfl d104) (w' := w') (by go_simp) ⟨rfl, Below.refl _ _⟩
        · skip
          have d104 := hD.out 8 104 (by simp [hdep]) rfl
          rw [show vals 8 = _ from hV 8 (by simp [hdep])] at d104
          change _ = (.bool P1 : Value) at d104
          have d113 := hD.out 17 113 (by simp [hdep]) rfl
          rw [show vals 17 = _ from hV 17 (by simp [hdep])] at d113
          change _ = ((bif !P1 then .bool (!a2 && !sR) else undef) : Value) at d113
          have e0 := H_hP2.out
          subst e0
          cases P1 <;> cases a2 <;> cases sR
          all_goals
            exact step_run rfl (w' := w') (by go_simp) ⟨rfl, Below.refl _ _⟩
        · skip
          have d114 := hD.out 18 114 (by simp [hdep]) rfl
          rw [show vals 18 = _ from hV 18 (by simp [hdep])] at d114
          change _ = (.bool P2 : Value) at d114
          exact step_run rfl (w' := w') (by go_simp) ⟨rfl, Below.refl _ _⟩
        · skip
          have d115 := hD.out 19 115 (by simp [hdep]) rfl
          rw [show vals 19 = _ from hV 19 (by simp [hdep])] at d115
          change _ = (.bool P2 : Value) at d115
          cases P2
          all_goals
            first
              | exact step_shut (wanted_shut rfl rfl d115 (by decide)) ⟨rfl, Below.refl _ _⟩
              | exact step_shut (wanted_undef rfl rfl d115) ⟨rfl, Below.refl _ _⟩
              | exact step_run' (wanted_open rfl rfl d115) (w' := w') (by go_simp) ⟨rfl, Below.refl _ _⟩
        · skip
          have d116 := hD.out 20 116 (by simp [hdep]) rfl
          rw [show vals 20 = _ from hV 20 (by simp [hdep])] at d116
          change _ = ((bif !P2 then .bool T5 else undef) : Value) at d116
          have d115 := hD.out 19 115 (by simp [hdep]) rfl
          rw [show vals 19 = _ from hV 19 (by simp [hdep])] at d115
          change _ = (.bool P2 : Value) at d115
          cases P2 <;> cases T5
          all_goals
            first
              | exact step_shut (wanted_shut rfl rfl d115 (by decide)) ⟨rfl, Below.refl _ _⟩
              | exact step_shut (wanted_undef rfl rfl d115) ⟨rfl, Below.refl _ _⟩
              | exact step_run' (wanted_open rfl rfl d115) (w' := w') (by go_simp) ⟨rfl, Below.refl _ _⟩
        · skip
          have d117 := hD.out 21 117 (by simp [hdep]) rfl
          rw [show vals 21 = _ from hV 21 (by simp [hdep])] at d117
          change _ = ((bif !P2 then .bool (!T5) else undef) : Value) at d117
          have d115 := hD.out 19 115 (by simp [hdep]) rfl
          rw [show vals 19 = _ from hV 19 (by simp [hdep])] at d115
          change _ = (.bool P2 : Value) at d115
          cases P2
          all_goals
            first
              | exact step_shut (wanted_shut rfl rfl d115 (by decide)) ⟨rfl, Below.refl _ _⟩
              | exact step_shut (wanted_undef rfl rfl d115) ⟨rfl, Below.refl _ _⟩
              | exact step_run' (wanted_open rfl rfl d115) (w' := w') (by go_simp) ⟨rfl, Below.refl _ _⟩
        · skip
          have d118 := hD.out 22 118 (by simp [hdep]) rfl
          rw [show vals 22 = _ from hV 22 (by simp [hdep])] at d118
          change _ = ((bif !P2 then .bool (!T5) else undef) : Value) at d118
          cases T5 <;> cases P2
          all_goals
            first
              | exact step_shut (wanted_shut rfl rfl d118 (by decide)) ⟨rfl, Below.refl _ _⟩
              | exact step_shut (wanted_undef rfl rfl d118) ⟨rfl, Below.refl _ _⟩
              | exact step_run' (wanted_open rfl rfl d118) (w' := w') (by go_simp) ⟨rfl, Below.refl _ _⟩
        · skip
          have d119 := hD.out 23 119 (by simp [hdep]) rfl
          rw [show vals 23 = _ from hV 23 (by simp [hdep])] at d119
          change _ = ((bif (!P2 && (!T5)) then .pointer (some ⟨q0, 4, none⟩) else undef) : Value) at d119
          have d118 := hD.out 22 118 (by simp [hdep]) rfl
          rw [show vals 22 = _ from hV 22 (by simp [hdep])] at d118
          change _ = ((bif !P2 then .bool (!T5) else undef) : Value) at d118
          have c4 := (hcell.out 4).trans A4.out
          rw [HN.out.2.2.2.2] at c4
          cases T5 <;> cases P2
          all_goals
            first
              | exact step_shut (wanted_shut rfl rfl d118 (by decide)) ⟨rfl, Below.refl _ _⟩
              | exact step_shut (wanted_undef rfl rfl d118) ⟨rfl, Below.refl _ _⟩
              | exact step_run' (wanted_open rfl rfl d118) (w' := w') (by go_simp) ⟨rfl, Below.refl _ _⟩
        · skip
          have d120 := hD.out 24 120 (by simp [hdep]) rfl
          rw [show vals 24 = _ from hV 24 (by simp [hdep])] at d120
          change _ = ((bif (!P2 && (!T5)) then .int .i64 tk else undef) : Value) at d120
          have d118 := hD.out 22 118 (by simp [hdep]) rfl
          rw [show vals 22 = _ from hV 22 (by simp [hdep])] at d118
          change _ = ((bif !P2 then .bool (!T5) else undef) : Value) at d118
          have e0 : (tk != 0) = nT := H_hnT.out
          cases T5 <;> cases P2
          all_goals
            first
              | exact step_shut (wanted_shut rfl rfl d118 (by decide)) ⟨rfl, Below.refl _ _⟩
              | exact step_shut (wanted_undef rfl rfl d118) ⟨rfl, Below.refl _ _⟩
              | exact step_run' (wanted_open rfl rfl d118) (w' := w') (by go_simp) ⟨rfl, Below.refl _ _⟩
        · skip
          have d118 := hD.out 22 118 (by simp [hdep]) rfl
          rw [show vals 22 = _ from hV 22 (by simp [hdep])] at d118
          change _ = ((bif !P2 then .bool (!T5) else undef) : Value) at d118
          have d121 := hD.out 25 121 (by simp [hdep]) rfl
          rw [show vals 25 = _ from hV 25 (by simp [hdep])] at d121
          change _ = ((bif (!P2 && (!T5)) then .bool nT else undef) : Value) at d121
          have d115 := hD.out 19 115 (by simp [hdep]) rfl
          rw [show vals 19 = _ from hV 19 (by simp [hdep])] at d115
          change _ = (.bool P2 : Value) at d115
          cases P2 <;> cases T5 <;> cases nT
          all_goals
            first
              | exact step_shut (wanted_shut rfl rfl d115 (by decide)) ⟨rfl, Below.refl _ _⟩
              | exact step_shut (wanted_undef rfl rfl d115) ⟨rfl, Below.refl _ _⟩
              | exact step_run' (wanted_open rfl rfl d115) (w' := w') (by go_simp) ⟨rfl, Below.refl _ _⟩
        · skip
          have d115 := hD.out 19 115 (by simp [hdep]) rfl
          rw [show vals 19 = _ from hV 19 (by simp [hdep])] at d115
          change _ = (.bool P2 : Value) at d115
          have d122 := hD.out 26 122 (by simp [hdep]) rfl
          rw [show vals 26 = _ from hV 26 (by simp [hdep])] at d122
          change _ = ((bif !P2 then .bool (!T5 && nT) else undef) : Value) at d122
          have e0 := H_hP3.out
          subst e0
          cases P2 <;> cases nT <;> cases T5
          all_goals
            exact step_run rfl (w' := w') (by go_simp) ⟨rfl, Below.refl _ _⟩
        · skip
          have d123 := hD.out 27 123 (by simp [hdep]) rfl
          rw [show vals 27 = _ from hV 27 (by simp [hdep])] at d123
          change _ = (.bool P3 : Value) at d123
          exact step_run rfl (w' := w') (by go_simp) ⟨rfl, Below.refl _ _⟩
        · skip
          have d124 := hD.out 28 124 (by simp [hdep]) rfl
          rw [show vals 28 = _ from hV 28 (by simp [hdep])] at d124
          change _ = (.bool P3 : Value) at d124
          cases P3
          all_goals
            first
              | exact step_shut (wanted_shut rfl rfl d124 (by decide)) ⟨rfl, Below.refl _ _⟩
              | exact step_shut (wanted_undef rfl rfl d124) ⟨rfl, Below.refl _ _⟩
              | exact step_run' (wanted_open rfl rfl d124) (w' := w') (by go_simp) ⟨rfl, Below.refl _ _⟩
        · skip
          have d125 := hD.out 29 125 (by simp [hdep]) rfl
          rw [show vals 29 = _ from hV 29 (by simp [hdep])] at d125
          change _ = ((bif !P3 then .bool a7 else undef) : Value) at d125
          have d124 := hD.out 28 124 (by simp [hdep]) rfl
          rw [show vals 28 = _ from hV 28 (by simp [hdep])] at d124
          change _ = (.bool P3 : Value) at d124
          cases P3 <;> cases a7
          all_goals
            first
              | exact step_shut (wanted_shut rfl rfl d124 (by decide)) ⟨rfl, Below.refl _ _⟩
              | exact step_shut (wanted_undef rfl rfl d124) ⟨rfl, Below.refl _ _⟩
              | exact step_run' (wanted_open rfl rfl d124) (w' := w') (by go_simp) ⟨rfl, Below.refl _ _⟩
        · skip
          have d126 := hD.out 30 126 (by simp [hdep]) rfl
          rw [show vals 30 = _ from hV 30 (by simp [hdep])] at d126
          change _ = ((bif !P3 then .bool (!a7) else undef) : Value) at d126
          have d124 := hD.out 28 124 (by simp [hdep]) rfl
          rw [show vals 28 = _ from hV 28 (by simp [hdep])] at d124
          change _ = (.bool P3 : Value) at d124
          cases P3
          all_goals
            first
              | exact step_shut (wanted_shut rfl rfl d124 (by decide)) ⟨rfl, Below.refl _ _⟩
              | exact step_shut (wanted_undef rfl rfl d124) ⟨rfl, Below.refl _ _⟩
              | exact step_run' (wanted_open rfl rfl d124) (w' := w') (by go_simp) ⟨rfl, Below.refl _ _⟩
        · skip
          have d127 := hD.out 31 127 (by simp [hdep]) rfl
          rw [show vals 31 = _ from hV 31 (by simp [hdep])] at d127
          change _ = ((bif !P3 then .bool (!a7) else undef) : Value) at d127
          cases a7 <;> cases P3
          all_goals
            first
              | exact step_shut (wanted_shut rfl rfl d127 (by decide)) ⟨rfl, Below.refl _ _⟩
              | exact step_shut (wanted_undef rfl rfl d127) ⟨rfl, Below.refl _ _⟩
              | exact step_run' (wanted_open rfl rfl d127) (w' := w') (by go_simp) ⟨rfl, Below.refl _ _⟩
        · skip
          have d128 := hD.out 32 128 (by simp [hdep]) rfl
          rw [show vals 32 = _ from hV 32 (by simp [hdep])] at d128
          change _ = ((bif (!P3 && (!a7)) then .pointer (some ⟨q0, 21, none⟩) else undef) : Value) at d128
          have d127 := hD.out 31 127 (by simp [hdep]) rfl
          rw [show vals 31 = _ from hV 31 (by simp [hdep])] at d127
          change _ = ((bif !P3 then .bool (!a7) else undef) : Value) at d127
          have c21 := (hcell.out 21).trans A21.out
          have c22 := (hcell.out 22).trans A22.out
          cases a7 <;> cases P3
          all_goals
            first
              | exact step_shut (wanted_shut rfl rfl d127 (by decide)) ⟨rfl, Below.refl _ _⟩
              | exact step_shut (wanted_undef rfl rfl d127) ⟨rfl, Below.refl _ _⟩
              | exact step_run' (wanted_open rfl rfl d127) (w' := w') (by go_simp) ⟨rfl, Below.refl _ _⟩
        · skip
          have d127 := hD.out 31 127 (by simp [hdep]) rfl
          rw [show vals 31 = _ from hV 31 (by simp [hdep])] at d127
          change _ = ((bif !P3 then .bool (!a7) else undef) : Value) at d127
          cases a7 <;> cases P3
          all_goals
            first
              | exact step_shut (wanted_shut rfl rfl d127 (by decide)) ⟨rfl, Below.refl _ _⟩
              | exact step_shut (wanted_undef rfl rfl d127) ⟨rfl, Below.refl _ _⟩
              | exact step_run' (wanted_open rfl rfl d127) (w' := w') (by go_simp) ⟨rfl, Below.refl _ _⟩
        · skip
          have d129 := hD.out 33 129 (by simp [hdep]) rfl
          rw [show vals 33 = _ from hV 33 (by simp [hdep])] at d129
          change _ = ((bif (!P3 && (!a7)) then .agg #[.string (strB n.sf), .string (strB n.st)] else undef) : Value) at d129
          have d130 := hD.out 34 130 (by simp [hdep]) rfl
          rw [show vals 34 = _ from hV 34 (by simp [hdep])] at d130
          change _ = ((bif (!P3 && (!a7)) then .agg #[.string ⟨#[]⟩, .string ⟨#[]⟩] else undef) : Value) at d130
          have d127 := hD.out 31 127 (by simp [hdep]) rfl
          rw [show vals 31 = _ from hV 31 (by simp [hdep])] at d127
          change _ = ((bif !P3 then .bool (!a7) else undef) : Value) at d127
          have e0 := H_hnS.out
          have e1 := HES.out
          cases a7 <;> cases P3
          all_goals
            first
              | exact step_shut (wanted_shut rfl rfl d127 (by decide)) ⟨rfl, Below.refl _ _⟩
              | exact step_shut (wanted_undef rfl rfl d127) ⟨rfl, Below.refl _ _⟩
              | exact step_run' (wanted_open rfl rfl d127) (w' := w') (by go_simp) ⟨rfl, Below.refl _ _⟩
        · skip
          have d131 := hD.out 35 131 (by simp [hdep]) rfl
          rw [show vals 35 = _ from hV 35 (by simp [hdep])] at d131
          change _ = ((bif (!P3 && (!a7)) then .bool nS else undef) : Value) at d131
          have d127 := hD.out 31 127 (by simp [hdep]) rfl
          rw [show vals 31 = _ from hV 31 (by simp [hdep])] at d127
          change _ = ((bif !P3 then .bool (!a7) else undef) : Value) at d127
          cases a7 <;> cases P3
          all_goals
            first
              | exact step_shut (wanted_shut rfl rfl d127 (by decide)) ⟨rfl, Below.refl _ _⟩
              | exact step_shut (wanted_undef rfl rfl d127) ⟨rfl, Below.refl _ _⟩
              | exact step_run' (wanted_open rfl rfl d127) (w' := w') (by go_simp) ⟨rfl, Below.refl _ _⟩
        · skip
          have d132 := hD.out 36 132 (by simp [hdep]) rfl
          rw [show vals 36 = _ from hV 36 (by simp [hdep])] at d132
          change _ = ((bif (!P3 && (!a7)) then .bool nS else undef) : Value) at d132
          cases a7 <;> cases nS <;> cases P3
          all_goals
            first
              | exact step_shut (wanted_shut rfl rfl d132 (by decide)) ⟨rfl, Below.refl _ _⟩
              | exact step_shut (wanted_undef rfl rfl d132) ⟨rfl, Below.refl _ _⟩
              | exact step_run' (wanted_open rfl rfl d132) (w' := w') (by go_simp) ⟨rfl, Below.refl _ _⟩
        · skip
          have d133 := hD.out 37 133 (by simp [hdep]) rfl
          rw [show vals 37 = _ from hV 37 (by simp [hdep])] at d133
          change _ = ((bif ((!P3 && (!a7)) && !nS) then .pointer (some ⟨q0, 3, none⟩) else undef) : Value) at d133
          have d132 := hD.out 36 132 (by simp [hdep]) rfl
          rw [show vals 36 = _ from hV 36 (by simp [hdep])] at d132
          change _ = ((bif (!P3 && (!a7)) then .bool nS else undef) : Value) at d132
          have c3 := (hcell.out 3).trans A3.out
          rw [HN.out.2.2.2.1] at c3
          cases a7 <;> cases nS <;> cases P3
          all_goals
            first
              | exact step_shut (wanted_shut rfl rfl d132 (by decide)) ⟨rfl, Below.refl _ _⟩
              | exact step_shut (wanted_undef rfl rfl d132) ⟨rfl, Below.refl _ _⟩
              | exact step_run' (wanted_open rfl rfl d132) (w' := w') (by go_simp) ⟨rfl, Below.refl _ _⟩
        · skip
          have d134 := hD.out 38 134 (by simp [hdep]) rfl
          rw [show vals 38 = _ from hV 38 (by simp [hdep])] at d134
          change _ = ((bif ((!P3 && (!a7)) && !nS) then .int .i64 ep else undef) : Value) at d134
          have d132 := hD.out 36 132 (by simp [hdep]) rfl
          rw [show vals 36 = _ from hV 36 (by simp [hdep])] at d132
          change _ = ((bif (!P3 && (!a7)) then .bool nS else undef) : Value) at d132
          have e0 : (ep != 0) = nE := H_hnE.out
          cases a7 <;> cases nS <;> cases P3
          all_goals
            first
              | exact step_shut (wanted_shut rfl rfl d132 (by decide)) ⟨rfl, Below.refl _ _⟩
              | exact step_shut (wanted_undef rfl rfl d132) ⟨rfl, Below.refl _ _⟩
              | exact step_run' (wanted_open rfl rfl d132) (w' := w') (by go_simp) ⟨rfl, Below.refl _ _⟩
        · skip
          have d132 := hD.out 36 132 (by simp [hdep]) rfl
          rw [show vals 36 = _ from hV 36 (by simp [hdep])] at d132
          change _ = ((bif (!P3 && (!a7)) then .bool nS else undef) : Value) at d132
          have d135 := hD.out 39 135 (by simp [hdep]) rfl
          rw [show vals 39 = _ from hV 39 (by simp [hdep])] at d135
          change _ = ((bif ((!P3 && (!a7)) && !nS) then .bool nE else undef) : Value) at d135
          have d127 := hD.out 31 127 (by simp [hdep]) rfl
          rw [show vals 31 = _ from hV 31 (by simp [hdep])] at d127
          change _ = ((bif !P3 then .bool (!a7) else undef) : Value) at d127
          cases a7 <;> cases P3 <;> cases nS <;> cases nE
          all_goals
            first
              | exact step_shut (wanted_shut rfl rfl d127 (by decide)) ⟨rfl, Below.refl _ _⟩
              | exact step_shut (wanted_undef rfl rfl d127) ⟨rfl, Below.refl _ _⟩
              | exact step_run' (wanted_open rfl rfl d127) (w' := w') (by go_simp) ⟨rfl, Below.refl _ _⟩
        · skip
          have d127 := hD.out 31 127 (by simp [hdep]) rfl
          rw [show vals 31 = _ from hV 31 (by simp [hdep])] at d127
          change _ = ((bif !P3 then .bool (!a7) else undef) : Value) at d127
          have d136 := hD.out 40 136 (by simp [hdep]) rfl
          rw [show vals 40 = _ from hV 40 (by simp [hdep])] at d136
          change _ = ((bif (!P3 && (!a7)) then .bool (nS || nE) else undef) : Value) at d136
          have d124 := hD.out 28 124 (by simp [hdep]) rfl
          rw [show vals 28 = _ from hV 28 (by simp [hdep])] at d124
          change _ = (.bool P3 : Value) at d124
          cases P3 <;> cases a7 <;> cases nS <;> cases nE
          all_goals
            first
              | exact step_shut (wanted_shut rfl rfl d124 (by decide)) ⟨rfl, Below.refl _ _⟩
              | exact step_shut (wanted_undef rfl rfl d124) ⟨rfl, Below.refl _ _⟩
              | exact step_run' (wanted_open rfl rfl d124) (w' := w') (by go_simp) ⟨rfl, Below.refl _ _⟩
        · skip
          have d124 := hD.out 28 124 (by simp [hdep]) rfl
          rw [show vals 28 = _ from hV 28 (by simp [hdep])] at d124
          change _ = (.bool P3 : Value) at d124
          have d137 := hD.out 41 137 (by simp [hdep]) rfl
          rw [show vals 41 = _ from hV 41 (by simp [hdep])] at d137
          change _ = ((bif !P3 then .bool (!a7 && (nS || nE)) else undef) : Value) at d137
          have e0 := H_hP4.out
          subst e0
          cases P3 <;> cases a7 <;> cases nS <;> cases nE
          all_goals
            exact step_run rfl (w' := w') (by go_simp) ⟨rfl, Below.refl _ _⟩
        · skip
          have d138 := hD.out 42 138 (by simp [hdep]) rfl
          rw [show vals 42 = _ from hV 42 (by simp [hdep])] at d138
          change _ = (.bool P4 : Value) at d138
          exact step_run rfl (w' := w') (by go_simp) ⟨rfl, Below.refl _ _⟩
        · skip
          have d139 := hD.out 43 139 (by simp [hdep]) rfl
          rw [show vals 43 = _ from hV 43 (by simp [hdep])] at d139
          change _ = (.bool P4 : Value) at d139
          cases P4
          all_goals
            first
              | exact step_shut (wanted_shut rfl rfl d139 (by decide)) ⟨rfl, Below.refl _ _⟩
              | exact step_shut (wanted_undef rfl rfl d139) ⟨rfl, Below.refl _ _⟩
              | exact step_run' (wanted_open rfl rfl d139) (w' := w') (by go_simp) ⟨rfl, Below.refl _ _⟩
        · skip
          have d140 := hD.out 44 140 (by simp [hdep]) rfl
          rw [show vals 44 = _ from hV 44 (by simp [hdep])] at d140
          change _ = ((bif !P4 then .bool L8 else undef) : Value) at d140
          have d139 := hD.out 43 139 (by simp [hdep]) rfl
          rw [show vals 43 = _ from hV 43 (by simp [hdep])] at d139
          change _ = (.bool P4 : Value) at d139
          cases P4 <;> cases L8
          all_goals
            first
              | exact step_shut (wanted_shut rfl rfl d139 (by decide)) ⟨rfl, Below.refl _ _⟩
              | exact step_shut (wanted_undef rfl rfl d139) ⟨rfl, Below.refl _ _⟩
              | exact step_run' (wanted_open rfl rfl d139) (w' := w') (by go_simp) ⟨rfl, Below.refl _ _⟩
        · skip
          have d141 := hD.out 45 141 (by simp [hdep]) rfl
          rw [show vals 45 = _ from hV 45 (by simp [hdep])] at d141
          change _ = ((bif !P4 then .bool (!L8) else undef) : Value) at d141
          have d139 := hD.out 43 139 (by simp [hdep]) rfl
          rw [show vals 43 = _ from hV 43 (by simp [hdep])] at d139
          change _ = (.bool P4 : Value) at d139
          cases P4
          all_goals
            first
              | exact step_shut (wanted_shut rfl rfl d139 (by decide)) ⟨rfl, Below.refl _ _⟩
              | exact step_shut (wanted_undef rfl rfl d139) ⟨rfl, Below.refl _ _⟩
              | exact step_run' (wanted_open rfl rfl d139) (w' := w') (by go_simp) ⟨rfl, Below.refl _ _⟩
        · skip
          have d142 := hD.out 46 142 (by simp [hdep]) rfl
          rw [show vals 46 = _ from hV 46 (by simp [hdep])] at d142
          change _ = ((bif !P4 then .bool (!L8) else undef) : Value) at d142
          cases L8 <;> cases P4
          all_goals
            first
              | exact step_shut (wanted_shut rfl rfl d142 (by decide)) ⟨rfl, Below.refl _ _⟩
              | exact step_shut (wanted_undef rfl rfl d142) ⟨rfl, Below.refl _ _⟩
              | exact step_run' (wanted_open rfl rfl d142) (w' := w') (by go_simp) ⟨rfl, Below.refl _ _⟩
        · skip
          have d143 := hD.out 47 143 (by simp [hdep]) rfl
          rw [show vals 47 = _ from hV 47 (by simp [hdep])] at d143
          change _ = ((bif (!P4 && (!L8)) then .pointer (some ⟨q0, 23, none⟩) else undef) : Value) at d143
          have d142 := hD.out 46 142 (by simp [hdep]) rfl
          rw [show vals 46 = _ from hV 46 (by simp [hdep])] at d142
          change _ = ((bif !P4 then .bool (!L8) else undef) : Value) at d142
          have c23 := (hcell.out 23).trans A23.out
          cases L8 <;> cases P4
          all_goals
            first
              | exact step_shut (wanted_shut rfl rfl d142 (by decide)) ⟨rfl, Below.refl _ _⟩
              | exact step_shut (wanted_undef rfl rfl d142) ⟨rfl, Below.refl _ _⟩
              | exact step_run' (wanted_open rfl rfl d142) (w' := w') (by go_simp) ⟨rfl, Below.refl _ _⟩
        · skip
          have d144 := hD.out 48 144 (by simp [hdep]) rfl
          rw [show vals 48 = _ from hV 48 (by simp [hdep])] at d144
          change _ = ((bif (!P4 && (!L8)) then .slice P.lp NL P.lk else undef) : Value) at d144
          have d142 := hD.out 46 142 (by simp [hdep]) rfl
          rw [show vals 46 = _ from hV 46 (by simp [hdep])] at d142
          change _ = ((bif !P4 then .bool (!L8) else undef) : Value) at d142
          cases L8 <;> cases P4
          all_goals
            first
              | exact step_shut (wanted_shut rfl rfl d142 (by decide)) ⟨rfl, Below.refl _ _⟩
              | exact step_shut (wanted_undef rfl rfl d142) ⟨rfl, Below.refl _ _⟩
              | exact step_run' (wanted_open rfl rfl d142) (w' := w') (by go_simp) ⟨rfl, Below.refl _ _⟩
        · skip
          have d145 := hD.out 49 145 (by simp [hdep]) rfl
          rw [show vals 49 = _ from hV 49 (by simp [hdep])] at d145
          change _ = ((bif (!P4 && (!L8)) then .int .i64 (NL : Nat) else undef) : Value) at d145
          have d142 := hD.out 46 142 (by simp [hdep]) rfl
          rw [show vals 46 = _ from hV 46 (by simp [hdep])] at d142
          change _ = ((bif !P4 then .bool (!L8) else undef) : Value) at d142
          have e0 : decide (0 < NL) = nL := by have := H_hnL.out; simpa using this
          cases L8 <;> cases P4
          all_goals
            first
              | exact step_shut (wanted_shut rfl rfl d142 (by decide)) ⟨rfl, Below.refl _ _⟩
              | exact step_shut (wanted_undef rfl rfl d142) ⟨rfl, Below.refl _ _⟩
              | exact step_run' (wanted_open rfl rfl d142) (w' := w') (by go_simp) ⟨rfl, Below.refl _ _⟩
        · skip
          have d146 := hD.out 50 146 (by simp [hdep]) rfl
          rw [show vals 50 = _ from hV 50 (by simp [hdep])] at d146
          change _ = ((bif (!P4 && (!L8)) then .bool nL else undef) : Value) at d146
          have d142 := hD.out 46 142 (by simp [hdep]) rfl
          rw [show vals 46 = _ from hV 46 (by simp [hdep])] at d142
          change _ = ((bif !P4 then .bool (!L8) else undef) : Value) at d142
          cases L8 <;> cases P4
          all_goals
            first
              | exact step_shut (wanted_shut rfl rfl d142 (by decide)) ⟨rfl, Below.refl _ _⟩
              | exact step_shut (wanted_undef rfl rfl d142) ⟨rfl, Below.refl _ _⟩
              | exact step_run' (wanted_open rfl rfl d142) (w' := w') (by go_simp) ⟨rfl, Below.refl _ _⟩
        · skip
          have d147 := hD.out 51 147 (by simp [hdep]) rfl
          rw [show vals 51 = _ from hV 51 (by simp [hdep])] at d147
          change _ = ((bif (!P4 && (!L8)) then .bool nL else undef) : Value) at d147
          cases nL <;> cases L8 <;> cases P4
          all_goals
            first
              | exact step_shut (wanted_shut rfl rfl d147 (by decide)) ⟨rfl, Below.refl _ _⟩
              | exact step_shut (wanted_undef rfl rfl d147) ⟨rfl, Below.refl _ _⟩
              | exact step_run' (wanted_open rfl rfl d147) (w' := w') (by go_simp) ⟨rfl, Below.refl _ _⟩
        · skip
          have d148 := hD.out 52 148 (by simp [hdep]) rfl
          rw [show vals 52 = _ from hV 52 (by simp [hdep])] at d148
          change _ = ((bif ((!P4 && (!L8)) && !nL) then .pointer (some ⟨q0, 24, none⟩) else undef) : Value) at d148
          have d147 := hD.out 51 147 (by simp [hdep]) rfl
          rw [show vals 51 = _ from hV 51 (by simp [hdep])] at d147
          change _ = ((bif (!P4 && (!L8)) then .bool nL else undef) : Value) at d147
          have c24 := (hcell.out 24).trans A24.out
          cases nL <;> cases L8 <;> cases P4
          all_goals
            first
              | exact step_shut (wanted_shut rfl rfl d147 (by decide)) ⟨rfl, Below.refl _ _⟩
              | exact step_shut (wanted_undef rfl rfl d147) ⟨rfl, Below.refl _ _⟩
              | exact step_run' (wanted_open rfl rfl d147) (w' := w') (by go_simp) ⟨rfl, Below.refl _ _⟩
        · skip
          have d149 := hD.out 53 149 (by simp [hdep]) rfl
          rw [show vals 53 = _ from hV 53 (by simp [hdep])] at d149
          change _ = ((bif ((!P4 && (!L8)) && !nL) then .slice P.ap NK P.ak else undef) : Value) at d149
          have d147 := hD.out 51 147 (by simp [hdep]) rfl
          rw [show vals 51 = _ from hV 51 (by simp [hdep])] at d147
          change _ = ((bif (!P4 && (!L8)) then .bool nL else undef) : Value) at d147
          cases nL <;> cases L8 <;> cases P4
          all_goals
            first
              | exact step_shut (wanted_shut rfl rfl d147 (by decide)) ⟨rfl, Below.refl _ _⟩
              | exact step_shut (wanted_undef rfl rfl d147) ⟨rfl, Below.refl _ _⟩
              | exact step_run' (wanted_open rfl rfl d147) (w' := w') (by go_simp) ⟨rfl, Below.refl _ _⟩
        · skip
          have d150 := hD.out 54 150 (by simp [hdep]) rfl
          rw [show vals 54 = _ from hV 54 (by simp [hdep])] at d150
          change _ = ((bif ((!P4 && (!L8)) && !nL) then .int .i64 (NK : Nat) else undef) : Value) at d150
          have d147 := hD.out 51 147 (by simp [hdep]) rfl
          rw [show vals 51 = _ from hV 51 (by simp [hdep])] at d147
          change _ = ((bif (!P4 && (!L8)) then .bool nL else undef) : Value) at d147
          have e0 : decide (0 < NK) = nK := by have := H_hnK.out; simpa using this
          cases nL <;> cases L8 <;> cases P4
          all_goals
            first
              | exact step_shut (wanted_shut rfl rfl d147 (by decide)) ⟨rfl, Below.refl _ _⟩
              | exact step_shut (wanted_undef rfl rfl d147) ⟨rfl, Below.refl _ _⟩
              | exact step_run' (wanted_open rfl rfl d147) (w' := w') (by go_simp) ⟨rfl, Below.refl _ _⟩
        · skip
          have d147 := hD.out 51 147 (by simp [hdep]) rfl
          rw [show vals 51 = _ from hV 51 (by simp [hdep])] at d147
          change _ = ((bif (!P4 && (!L8)) then .bool nL else undef) : Value) at d147
          have d151 := hD.out 55 151 (by simp [hdep]) rfl
          rw [show vals 55 = _ from hV 55 (by simp [hdep])] at d151
          change _ = ((bif ((!P4 && (!L8)) && !nL) then .bool nK else undef) : Value) at d151
          have d142 := hD.out 46 142 (by simp [hdep]) rfl
          rw [show vals 46 = _ from hV 46 (by simp [hdep])] at d142
          change _ = ((bif !P4 then .bool (!L8) else undef) : Value) at d142
          cases L8 <;> cases P4 <;> cases nL <;> cases nK
          all_goals
            first
              | exact step_shut (wanted_shut rfl rfl d142 (by decide)) ⟨rfl, Below.refl _ _⟩
              | exact step_shut (wanted_undef rfl rfl d142) ⟨rfl, Below.refl _ _⟩
              | exact step_run' (wanted_open rfl rfl d142) (w' := w') (by go_simp) ⟨rfl, Below.refl _ _⟩
        · skip
          have d142 := hD.out 46 142 (by simp [hdep]) rfl
          rw [show vals 46 = _ from hV 46 (by simp [hdep])] at d142
          change _ = ((bif !P4 then .bool (!L8) else undef) : Value) at d142
          have d152 := hD.out 56 152 (by simp [hdep]) rfl
          rw [show vals 56 = _ from hV 56 (by simp [hdep])] at d152
          change _ = ((bif (!P4 && (!L8)) then .bool (nL || nK) else undef) : Value) at d152
          have d139 := hD.out 43 139 (by simp [hdep]) rfl
          rw [show vals 43 = _ from hV 43 (by simp [hdep])] at d139
          change _ = (.bool P4 : Value) at d139
          cases P4 <;> cases L8 <;> cases nL <;> cases nK
          all_goals
            first
              | exact step_shut (wanted_shut rfl rfl d139 (by decide)) ⟨rfl, Below.refl _ _⟩
              | exact step_shut (wanted_undef rfl rfl d139) ⟨rfl, Below.refl _ _⟩
              | exact step_run' (wanted_open rfl rfl d139) (w' := w') (by go_simp) ⟨rfl, Below.refl _ _⟩
        · skip
          have d139 := hD.out 43 139 (by simp [hdep]) rfl
          rw [show vals 43 = _ from hV 43 (by simp [hdep])] at d139
          change _ = (.bool P4 : Value) at d139
          have d153 := hD.out 57 153 (by simp [hdep]) rfl
          rw [show vals 57 = _ from hV 57 (by simp [hdep])] at d153
          change _ = ((bif !P4 then .bool (!L8 && (nL || nK)) else undef) : Value) at d153
          have e0 := H_hP5.out
          subst e0
          cases P4 <;> cases nL <;> cases nK <;> cases L8
          all_goals
            exact step_run rfl (w' := w') (by go_simp) ⟨rfl, Below.refl _ _⟩
        · skip
          have d154 := hD.out 58 154 (by simp [hdep]) rfl
          rw [show vals 58 = _ from hV 58 (by simp [hdep])] at d154
          change _ = (.bool P5 : Value) at d154
          exact step_run rfl (w' := w') (by go_simp) ⟨rfl, Below.refl _ _⟩
        · skip
          have d155 := hD.out 59 155 (by simp [hdep]) rfl
          rw [show vals 59 = _ from hV 59 (by simp [hdep])] at d155
          change _ = (.bool P5 : Value) at d155
          cases P5
          all_goals
            first
              | exact step_shut (wanted_shut rfl rfl d155 (by decide)) ⟨rfl, Below.refl _ _⟩
              | exact step_shut (wanted_undef rfl rfl d155) ⟨rfl, Below.refl _ _⟩
              | exact step_run' (wanted_open rfl rfl d155) (w' := w') (by go_simp) ⟨rfl, Below.refl _ _⟩
        · skip
          have d156 := hD.out 60 156 (by simp [hdep]) rfl
          rw [show vals 60 = _ from hV 60 (by simp [hdep])] at d156
          change _ = ((bif !P5 then .bool M4 else undef) : Value) at d156
          have d155 := hD.out 59 155 (by simp [hdep]) rfl
          rw [show vals 59 = _ from hV 59 (by simp [hdep])] at d155
          change _ = (.bool P5 : Value) at d155
          cases P5 <;> cases M4
          all_goals
            first
              | exact step_shut (wanted_shut rfl rfl d155 (by decide)) ⟨rfl, Below.refl _ _⟩
              | exact step_shut (wanted_undef rfl rfl d155) ⟨rfl, Below.refl _ _⟩
              | exact step_run' (wanted_open rfl rfl d155) (w' := w') (by go_simp) ⟨rfl, Below.refl _ _⟩
        · skip
          have d157 := hD.out 61 157 (by simp [hdep]) rfl
          rw [show vals 61 = _ from hV 61 (by simp [hdep])] at d157
          change _ = ((bif !P5 then .bool (!M4) else undef) : Value) at d157
          have d155 := hD.out 59 155 (by simp [hdep]) rfl
          rw [show vals 59 = _ from hV 59 (by simp [hdep])] at d155
          change _ = (.bool P5 : Value) at d155
          cases P5
          all_goals
            first
              | exact step_shut (wanted_shut rfl rfl d155 (by decide)) ⟨rfl, Below.refl _ _⟩
              | exact step_shut (wanted_undef rfl rfl d155) ⟨rfl, Below.refl _ _⟩
              | exact step_run' (wanted_open rfl rfl d155) (w' := w') (by go_simp) ⟨rfl, Below.refl _ _⟩
        · skip
          have d158 := hD.out 62 158 (by simp [hdep]) rfl
          rw [show vals 62 = _ from hV 62 (by simp [hdep])] at d158
          change _ = ((bif !P5 then .bool (!M4) else undef) : Value) at d158
          cases M4 <;> cases P5
          all_goals
            first
              | exact step_shut (wanted_shut rfl rfl d158 (by decide)) ⟨rfl, Below.refl _ _⟩
              | exact step_shut (wanted_undef rfl rfl d158) ⟨rfl, Below.refl _ _⟩
              | exact step_run' (wanted_open rfl rfl d158) (w' := w') (by go_simp) ⟨rfl, Below.refl _ _⟩
        · skip
          have d159 := hD.out 63 159 (by simp [hdep]) rfl
          rw [show vals 63 = _ from hV 63 (by simp [hdep])] at d159
          change _ = ((bif (!P5 && (!M4)) then .pointer (some ⟨q0, 25, none⟩) else undef) : Value) at d159
          have d158 := hD.out 62 158 (by simp [hdep]) rfl
          rw [show vals 62 = _ from hV 62 (by simp [hdep])] at d158
          change _ = ((bif !P5 then .bool (!M4) else undef) : Value) at d158
          cases M4 <;> cases P5
          all_goals
            first
              | exact step_shut (wanted_shut rfl rfl d158 (by decide)) ⟨rfl, Below.refl _ _⟩
              | exact step_shut (wanted_undef rfl rfl d158) ⟨rfl, Below.refl _ _⟩
              | exact step_run' (wanted_open rfl rfl d158) (w' := w') (by go_simp) ⟨rfl, Below.refl _ _⟩
        · skip
          have d160 := hD.out 64 160 (by simp [hdep]) rfl
          rw [show vals 64 = _ from hV 64 (by simp [hdep])] at d160
          change _ = ((bif (!P5 && (!M4)) then .pointer (some ⟨q0, 25, none⟩) else undef) : Value) at d160
          have d158 := hD.out 62 158 (by simp [hdep]) rfl
          rw [show vals 62 = _ from hV 62 (by simp [hdep])] at d158
          change _ = ((bif !P5 then .bool (!M4) else undef) : Value) at d158
          have c25 := (hcell.out 25).trans A25.out
          cases M4 <;> cases P5
          all_goals
            first
              | exact step_shut (wanted_shut rfl rfl d158 (by decide)) ⟨rfl, Below.refl _ _⟩
              | exact step_shut (wanted_undef rfl rfl d158) ⟨rfl, Below.refl _ _⟩
              | exact step_run' (wanted_open rfl rfl d158) (w' := w') (by go_simp) ⟨rfl, Below.refl _ _⟩
        · skip
          have d161 := hD.out 65 161 (by simp [hdep]) rfl
          rw [show vals 65 = _ from hV 65 (by simp [hdep])] at d161
          change _ = ((bif (!P5 && (!M4)) then .int .i64 n.ae else undef) : Value) at d161
          have d158 := hD.out 62 158 (by simp [hdep]) rfl
          rw [show vals 62 = _ from hV 62 (by simp [hdep])] at d158
          change _ = ((bif !P5 then .bool (!M4) else undef) : Value) at d158
          have e0 : (n.ae != 0) = nM := H_hnM.out
          cases M4 <;> cases P5
          all_goals
            first
              | exact step_shut (wanted_shut rfl rfl d158 (by decide)) ⟨rfl, Below.refl _ _⟩
              | exact step_shut (wanted_undef rfl rfl d158) ⟨rfl, Below.refl _ _⟩
              | exact step_run' (wanted_open rfl rfl d158) (w' := w') (by go_simp) ⟨rfl, Below.refl _ _⟩
        · skip
          have d162 := hD.out 66 162 (by simp [hdep]) rfl
          rw [show vals 66 = _ from hV 66 (by simp [hdep])] at d162
          change _ = ((bif (!P5 && (!M4)) then .bool nM else undef) : Value) at d162
          have d158 := hD.out 62 158 (by simp [hdep]) rfl
          rw [show vals 62 = _ from hV 62 (by simp [hdep])] at d158
          change _ = ((bif !P5 then .bool (!M4) else undef) : Value) at d158
          cases M4 <;> cases P5
          all_goals
            first
              | exact step_shut (wanted_shut rfl rfl d158 (by decide)) ⟨rfl, Below.refl _ _⟩
              | exact step_shut (wanted_undef rfl rfl d158) ⟨rfl, Below.refl _ _⟩
              | exact step_run' (wanted_open rfl rfl d158) (w' := w') (by go_simp) ⟨rfl, Below.refl _ _⟩
        · skip
          have d163 := hD.out 67 163 (by simp [hdep]) rfl
          rw [show vals 67 = _ from hV 67 (by simp [hdep])] at d163
          change _ = ((bif (!P5 && (!M4)) then .bool nM else undef) : Value) at d163
          cases nM <;> cases M4 <;> cases P5
          all_goals
            first
              | exact step_shut (wanted_shut rfl rfl d163 (by decide)) ⟨rfl, Below.refl _ _⟩
              | exact step_shut (wanted_undef rfl rfl d163) ⟨rfl, Below.refl _ _⟩
              | exact step_run' (wanted_open rfl rfl d163) (w' := w') (by go_simp) ⟨rfl, Below.refl _ _⟩
        · skip
          have d164 := hD.out 68 164 (by simp [hdep]) rfl
          rw [show vals 68 = _ from hV 68 (by simp [hdep])] at d164
          change _ = ((bif ((!P5 && (!M4)) && !nM) then .pointer (some ⟨q0, 25, none⟩) else undef) : Value) at d164
          have d163 := hD.out 67 163 (by simp [hdep]) rfl
          rw [show vals 67 = _ from hV 67 (by simp [hdep])] at d163
          change _ = ((bif (!P5 && (!M4)) then .bool nM else undef) : Value) at d163
          cases nM <;> cases M4 <;> cases P5
          all_goals
            first
              | exact step_shut (wanted_shut rfl rfl d163 (by decide)) ⟨rfl, Below.refl _ _⟩
              | exact step_shut (wanted_undef rfl rfl d163) ⟨rfl, Below.refl _ _⟩
              | exact step_run' (wanted_open rfl rfl d163) (w' := w') (by go_simp) ⟨rfl, Below.refl _ _⟩
        · skip
          have d165 := hD.out 69 165 (by simp [hdep]) rfl
          rw [show vals 69 = _ from hV 69 (by simp [hdep])] at d165
          change _ = ((bif ((!P5 && (!M4)) && !nM) then .pointer (some ⟨q0, 26, none⟩) else undef) : Value) at d165
          have d163 := hD.out 67 163 (by simp [hdep]) rfl
          rw [show vals 67 = _ from hV 67 (by simp [hdep])] at d163
          change _ = ((bif (!P5 && (!M4)) then .bool nM else undef) : Value) at d163
          have c26 := (hcell.out 26).trans A26.out
          cases nM <;> cases M4 <;> cases P5
          all_goals
            first
              | exact step_shut (wanted_shut rfl rfl d163 (by decide)) ⟨rfl, Below.refl _ _⟩
              | exact step_shut (wanted_undef rfl rfl d163) ⟨rfl, Below.refl _ _⟩
              | exact step_run' (wanted_open rfl rfl d163) (w' := w') (by go_simp) ⟨rfl, Below.refl _ _⟩
        · skip
          have d166 := hD.out 70 166 (by simp [hdep]) rfl
          rw [show vals 70 = _ from hV 70 (by simp [hdep])] at d166
          change _ = ((bif ((!P5 && (!M4)) && !nM) then .slice P.hp NH P.hk else undef) : Value) at d166
          have d163 := hD.out 67 163 (by simp [hdep]) rfl
          rw [show vals 67 = _ from hV 67 (by simp [hdep])] at d163
          change _ = ((bif (!P5 && (!M4)) then .bool nM else undef) : Value) at d163
          cases nM <;> cases M4 <;> cases P5
          all_goals
            first
              | exact step_shut (wanted_shut rfl rfl d163 (by decide)) ⟨rfl, Below.refl _ _⟩
              | exact step_shut (wanted_undef rfl rfl d163) ⟨rfl, Below.refl _ _⟩
              | exact step_run' (wanted_open rfl rfl d163) (w' := w') (by go_simp) ⟨rfl, Below.refl _ _⟩
        · skip
          have d167 := hD.out 71 167 (by simp [hdep]) rfl
          rw [show vals 71 = _ from hV 71 (by simp [hdep])] at d167
          change _ = ((bif ((!P5 && (!M4)) && !nM) then .int .i64 (NH : Nat) else undef) : Value) at d167
          have d163 := hD.out 67 163 (by simp [hdep]) rfl
          rw [show vals 67 = _ from hV 67 (by simp [hdep])] at d163
          change _ = ((bif (!P5 && (!M4)) then .bool nM else undef) : Value) at d163
          have e0 : decide (0 < NH) = nH := by have := H_hnH.out; simpa using this
          cases nM <;> cases M4 <;> cases P5
          all_goals
            first
              | exact step_shut (wanted_shut rfl rfl d163 (by decide)) ⟨rfl, Below.refl _ _⟩
              | exact step_shut (wanted_undef rfl rfl d163) ⟨rfl, Below.refl _ _⟩
              | exact step_run' (wanted_open rfl rfl d163) (w' := w') (by go_simp) ⟨rfl, Below.refl _ _⟩
        · skip
          have d163 := hD.out 67 163 (by simp [hdep]) rfl
          rw [show vals 67 = _ from hV 67 (by simp [hdep])] at d163
          change _ = ((bif (!P5 && (!M4)) then .bool nM else undef) : Value) at d163
          have d168 := hD.out 72 168 (by simp [hdep]) rfl
          rw [show vals 72 = _ from hV 72 (by simp [hdep])] at d168
          change _ = ((bif ((!P5 && (!M4)) && !nM) then .bool nH else undef) : Value) at d168
          have d158 := hD.out 62 158 (by simp [hdep]) rfl
          rw [show vals 62 = _ from hV 62 (by simp [hdep])] at d158
          change _ = ((bif !P5 then .bool (!M4) else undef) : Value) at d158
          cases M4 <;> cases P5 <;> cases nM <;> cases nH
          all_goals
            first
              | exact step_shut (wanted_shut rfl rfl d158 (by decide)) ⟨rfl, Below.refl _ _⟩
              | exact step_shut (wanted_undef rfl rfl d158) ⟨rfl, Below.refl _ _⟩
              | exact step_run' (wanted_open rfl rfl d158) (w' := w') (by go_simp) ⟨rfl, Below.refl _ _⟩
        · skip
          have d158 := hD.out 62 158 (by simp [hdep]) rfl
          rw [show vals 62 = _ from hV 62 (by simp [hdep])] at d158
          change _ = ((bif !P5 then .bool (!M4) else undef) : Value) at d158
          have d169 := hD.out 73 169 (by simp [hdep]) rfl
          rw [show vals 73 = _ from hV 73 (by simp [hdep])] at d169
          change _ = ((bif (!P5 && (!M4)) then .bool (nM || nH) else undef) : Value) at d169
          have d155 := hD.out 59 155 (by simp [hdep]) rfl
          rw [show vals 59 = _ from hV 59 (by simp [hdep])] at d155
          change _ = (.bool P5 : Value) at d155
          cases P5 <;> cases M4 <;> cases nM <;> cases nH
          all_goals
            first
              | exact step_shut (wanted_shut rfl rfl d155 (by decide)) ⟨rfl, Below.refl _ _⟩
              | exact step_shut (wanted_undef rfl rfl d155) ⟨rfl, Below.refl _ _⟩
              | exact step_run' (wanted_open rfl rfl d155) (w' := w') (by go_simp) ⟨rfl, Below.refl _ _⟩
        · skip
          have d155 := hD.out 59 155 (by simp [hdep]) rfl
          rw [show vals 59 = _ from hV 59 (by simp [hdep])] at d155
          change _ = (.bool P5 : Value) at d155
          have d170 := hD.out 74 170 (by simp [hdep]) rfl
          rw [show vals 74 = _ from hV 74 (by simp [hdep])] at d170
          change _ = ((bif !P5 then .bool (!M4 && (nM || nH)) else undef) : Value) at d170
          have e0 := H_hP6.out
          subst e0
          cases P5 <;> cases nM <;> cases nH <;> cases M4
          all_goals
            exact step_run rfl (w' := w') (by go_simp) ⟨rfl, Below.refl _ _⟩
      · intro vals w2 hB hV
        have e75 : vals 75 = _ := hV 75 (by decide)
        change _ = (.bool P6 : Value) at e75
        have HQ := Lib.hid (HEND.out w2 (HB_1.out.trans (hB.mono HB_1.out.size)))
        clear hV
        simp only [putsL, Act.put, List.setIfInBounds_toArray, List.set_cons_zero, List.set_cons_succ, e75]
        clear e75
        go_wp2_with fail
        go_meet
        exact HQ.out
    case rest =>
      obtain ⟨bv, rfl, HBV, HB_2⟩ := hcut
      cases bv with
      | true =>
        have HQ := Lib.hid (HNO.out _ HB_2.out)
        go_wp2_with fail
        go_ret
        exact HQ.out
      | false =>
        have HGG := HBV.out rfl
        have HGF := Lib.hid HGG
        clear HGG
        have k5 := (HC.out wc HB_2.out 5).trans A5.out
        have k6 := (HC.out wc HB_2.out 6).trans A6.out
        have k7 := (HC.out wc HB_2.out 7).trans A7.out
        have k8 := (HC.out wc HB_2.out 8).trans A8.out
        have k9 := (HC.out wc HB_2.out 9).trans A9.out
        have k10 := (HC.out wc HB_2.out 10).trans A10.out
        have k11 := (HC.out wc HB_2.out 11).trans A11.out
        have k12 := (HC.out wc HB_2.out 12).trans A12.out
        have CA := Lib.hid (refAsk_ok n.ask wc HS.out.ask)
        unfold askV at CA
        go_wp2_with fail
        refine CA.out.mono ?_
        rintro e w3 ⟨v3, e3, rfl, he3, hk3, hb3⟩
        have HB_3 := Lib.hid (HB_2.out.trans (hb3.mono HB_2.out.size))
        have HE3 := Lib.hid (And.intro he3 hk3)
        clear hb3 he3 hk3 k5 k6 k7 k8 k9 k10 k11 k12
        have k13 := (HC.out w3 HB_3.out 13).trans A13.out
        have k14 := (HC.out w3 HB_3.out 14).trans A14.out
        have k15 := (HC.out w3 HB_3.out 15).trans A15.out
        have k16 := (HC.out w3 HB_3.out 16).trans A16.out
        have k17 := (HC.out w3 HB_3.out 17).trans A17.out
        have k18 := (HC.out w3 HB_3.out 18).trans A18.out
        have k19 := (HC.out w3 HB_3.out 19).trans A19.out
        have k20 := (HC.out w3 HB_3.out 20).trans A20.out
        have CR := Lib.hid (refReply_ok n.rep P.rp P.rk w3 (HA.out.rs.below (HBW.out.trans (HB_3.out.mono HBW.out.size))) HS.out.rep (Nat.le_trans HS.out.repl (by decide)))
        unfold repV at CR
        go_wp2_with fail
        refine CR.out.mono ?_
        rintro e w4 ⟨v4, e4, rfl, he4, hk4, hb4⟩
        have HB_4 := Lib.hid (HB_3.out.trans (hb4.mono HB_3.out.size))
        have HE4 := Lib.hid (And.intro he4 hk4)
        clear hb4 he4 hk4 k13 k14 k15 k16 k17 k18 k19 k20
        go_wp2_with fail
        go_loopw [12, 13, 14, 15] (fun f i _ _ wr => ∃ (k : Nat) (F : Int), k ≤ NK ∧ i = .int .i64 k ∧ f = .int .i64 F ∧ Hid ((0 ≤ F ∧ F ≤ (k : Int) + 1) ∧ (F = 0 → e4 = 0 ∧ ∀ e ∈ n.la.take k, (repS e.r).isSome = true)) ∧ Hid (Below W.heap.size W wr)) (fun _ i _ _ _ => NK - (RowKit.intOf i).toNat)
        case atStart => exact ⟨0, e4, Nat.zero_le _, rfl, rfl, Lib.hid ⟨by rcases HE4.out.1 with h | h <;> (rw [h]; decide), fun h => ⟨h, by simp⟩⟩, HB_4⟩
        case round =>
          obtain ⟨k, F, hk, rfl, rfl, HFK, HB_5⟩ := hrel
          have c24 := (HC.out _ HB_5.out 24).trans A24.out
          have hNK21 : (NK : Int) ≤ 21 := by have := HS.out.lal; have := H_hNK.out; omega
          by_cases hlt : k < NK
          · have hltz : (k : Int) < (NK : Int) := by omega
            have hkx : k < n.la.length := by rw [H_hNK.out]; exact hlt
            obtain ⟨e, he⟩ : ∃ e, n.la.getD k default = e := ⟨_, rfl⟩
            have hmem : e ∈ n.la := by rw [← he]; simp [List.getD, hkx]
            have hie := HA.out.les e hmem
            have hsm := HS.out.la e hmem
            obtain ⟨pb, po, hpe, hpb, hce⟩ := rep_cells HA.out.la (HBW.out.trans (HB_5.out.mono HBW.out.size)) hkx
            rw [he] at hce
            rw [hpe] at c24
            have HTK := Lib.hid (show n.la.take (k + 1) = n.la.take k ++ [e] by
              rw [List.take_succ_eq_append_getElem hkx, ← he]
              simp [List.getD, hkx])
            have CS := Lib.hid (refReply_ok e.r e.p e.k wr (hie.rs.below (HBW.out.trans (HB_5.out.mono HBW.out.size))) hsm.1 (Nat.le_trans hsm.2 (by decide)))
            unfold repV at CS
            obtain ⟨hF0, hF1⟩ := HFK.out.1
            obtain ⟨es, er, ep1, ek⟩ := e
            have z0 := hce 0 (by decide)
            have z1 := hce 1 (by decide)
            have z2 := hce 2 (by decide)
            have z3 := hce 3 (by decide)
            have z4 := hce 4 (by decide)
            have z5 := hce 5 (by decide)
            have z6 := hce 6 (by decide)
            have z7 := hce 7 (by decide)
            simp only [Ent.list, Nat.add_zero] at z0 z1 z2 z3 z4 z5 z6 z7
            simp only at CS HTK
            clear hce he hie hsm hmem hkx hpe hpb
            go_wp2_with fail
            refine CS.out.mono ?_
            rintro e w6 ⟨v6, e6, rfl, he6, hk6, hb6⟩
            have HB_6 := Lib.hid (HB_5.out.trans (hb6.mono HB_5.out.size))
            have HE6 := Lib.hid (And.intro he6 hk6)
            have h60 : 0 ≤ e6 := by rcases he6 with h | h <;> omega
            have h61 : e6 ≤ 1 := by rcases he6 with h | h <;> omega
            clear hb6 he6 hk6 z0 z1 z2 z3 z4 z5 z6 z7 c24
            go_wp2_with fail
            go_roundw
            case rel =>
              refine ⟨k + 1, F + e6, by omega, by go_num, by go_num, Lib.hid ⟨by constructor <;> omega, fun h => ?_⟩, HB_6⟩
              have h0 : F = 0 := by omega
              have h1 : e6 = 0 := by omega
              obtain ⟨h2, h3⟩ := HFK.out.2 h0
              refine ⟨h2, fun x hx => ?_⟩
              rw [HTK.out] at hx
              rcases List.mem_append.1 hx with hx | hx
              · exact h3 x hx
              · obtain rfl := List.mem_singleton.1 hx
                exact HE6.out.2 h1
            case measure => simp [RowKit.intOf]; omega
          · obtain rfl : k = NK := by omega
            have hltz : ¬ (k : Int) < (k : Int) := by omega
            have HAL := Lib.hid (show F = 0 → e4 = 0 ∧ ∀ e ∈ n.la, (repS e.r).isSome = true from fun h => by
              have := HFK.out.2 h
              rwa [List.take_of_length_le (by rw [H_hNK.out]; exact Nat.le_refl _)] at this)
            have CM := Lib.hid (refAtlasMay_any wr n.ae 5 n.sh P.hp P.hk (HA.out.sh.below (HBW.out.trans (HB_5.out.mono HBW.out.size))) (Nat.le_trans HS.out.shl (by decide)))
            rw [H_hNH.out] at CM
            obtain ⟨ym, hym⟩ : ∃ b, mayAB 5 n.ae n.sh = b := ⟨_, rfl⟩
            rw [hym] at CM
            have HYM := Lib.hid hym
            clear hym
            have HQN := Lib.hid (HNO.out _ HB_5.out)
            have HYES := Lib.hid (show e3 = 0 → F = 0 → (M4 = true → ym = true ∧ n.ae < 268435456) → ∀ w', Below W.heap.size W w' → RetMay w n (.returned (.bool true)) w' from fun h1 h2 h3 w' hb => HF.out true (fun _ => by
              obtain ⟨g1, g2, g3, g4, g5, g6⟩ := HGF.out
              obtain ⟨f1, f2⟩ := HAL.out h2
              have E := HN.out
              have hkk := HKD.out
              have a1e := H_ha1.out; have a2e := H_ha2.out; have a4e := H_ha4.out; have a5e := H_ha5.out; have a6e := H_ha6.out; have a7e := H_ha7.out; have a8e := H_ha8.out; have a9e := H_ha9.out; have tE := H_hT5.out; have lE := H_hL8.out; have mE := H_hM4.out
              refine ⟨by rw [E.2.1]; exact HPP.out.1, by rw [E.2.2.1]; exact HPP.out.2, ?_, by rw [E.2.2.2.1]; exact HEPTK.out.1, by rw [E.2.2.2.2]; exact HEPTK.out.2, ⟨by rw [E.1]; exact hkk, ?_, ?_, ?_, ?_, ?_, ?_⟩, HE3.out.2 h1, HE4.out.2 f1, f2, ?_⟩
              · rw [E.2.1, E.2.2.1]
                have := H_heb.out
                intro h
                rw [h] at this
                simp at this
              · rw [E.1]
                rcases g1 with g1 | g1
                · left; rw [g1] at a1e; simpa using a1e
                · right
                  have := H_hqa.out
                  rw [g1, decide_eq_true_eq] at this
                  obtain ⟨i1, i2, i3, i4, i5, i6, i7, i8⟩ := this
                  rw [strB_zero] at i4 i5 i6 i7
                  cases hq : n.ask with | mk d c s t v f u m => rw [hq] at i1 i2 i3 i4 i5 i6 i7 i8; simp only at i1 i2 i3 i4 i5 i6 i7 i8; subst i1 i2 i3 i4 i5 i6 i7 i8; rfl
              · rw [E.1]
                rcases g2 with g2 | g2
                · left; rw [g2] at a2e; simpa using a2e
                · right; exact H_hsR.out.1 g2
              · rw [E.1, E.2.2.2.2]
                rcases g3 with g3 | g3
                · rw [g3, ← a5e, ← a6e] at tE
                  simp at tE
                  omega
                · right; right; simpa using g3
              · rw [E.1, E.2.2.2.1]
                rcases g4 with g4 | ⟨g4, g5⟩
                · left; rw [g4] at a7e; simpa using a7e
                · right
                  have := H_hqs.out
                  rw [g4, decide_eq_true_eq, strB_zero, strB_zero] at this
                  exact ⟨this, by simpa using g5⟩
              · rw [E.1]
                rcases g5 with g5 | ⟨g5, g7⟩
                · rw [g5, ← a8e, ← a9e] at lE
                  simp at lE
                  omega
                · right; right
                  have i1 := H_hNL.out; have i2 := H_hNK.out
                  simp only [decide_eq_false_iff_not] at g5 g7
                  exact ⟨List.eq_nil_of_length_eq_zero (by omega), List.eq_nil_of_length_eq_zero (by omega)⟩
              · rw [E.1]
                rcases g6 with g6 | ⟨g6, g7⟩
                · left
                  rw [HYM.out]
                  refine ⟨?_, (h3 g6).1⟩
                  rw [g6, ← a4e, ← a6e] at mE
                  simp at mE
                  omega
                · cases hM4 : M4 with
                  | true =>
                    left
                    rw [HYM.out]
                    refine ⟨?_, (h3 hM4).1⟩
                    rw [hM4, ← a4e, ← a6e] at mE
                    simp at mE
                    omega
                  | false =>
                    right
                    rw [hM4, ← a4e, ← a6e] at mE
                    simp at mE
                    have i1 := H_hNH.out
                    simp only [decide_eq_false_iff_not] at g7
                    exact ⟨by omega, by simpa using g6, List.eq_nil_of_length_eq_zero (by omega)⟩
              · intro hk46
                rw [E.1] at hk46
                refine (h3 ?_).2
                rw [← mE, ← a4e, ← a6e]
                rcases hk46 with h | h <;> simp [h]) w' hb)
            have hE3 := HE3.out.1
            have HF0 := Lib.hid HFK.out.1
            have c25 := (HC.out _ HB_5.out 25).trans A25.out
            have c26 := (HC.out _ HB_5.out 26).trans A26.out
            obtain ⟨qz, hqz⟩ : ∃ b, (F == 0) = b := ⟨_, rfl⟩
            have HQZ := Lib.hid hqz
            rcases hE3 with hE3 | hE3
            · subst hE3
              cases qz with
              | false =>
                go_wp2_with fail
                go_ret
                exact HQN.out
              | true =>
                have HF00 := Lib.hid (show F = 0 by simpa using HQZ.out)
                cases M4 with
                | false =>
                  have HQ := Lib.hid (HYES.out rfl HF00.out (fun h => by cases h) _ HB_5.out)
                  go_wp2_with fail
                  go_ret
                  exact HQ.out
                | true =>
                  go_wp2_with fail
                  refine CM.out.mono ?_
                  rintro e w7 ⟨rfl, hb7⟩
                  have HB_7 := Lib.hid (HB_5.out.trans (hb7.mono HB_5.out.size))
                  clear hb7 c25 c26 c24
                  have c25 := (HC.out _ HB_7.out 25).trans A25.out
                  have HQ7 := Lib.hid (HNO.out _ HB_7.out)
                  cases ym with
                  | false =>
                    go_wp2_with fail
                    go_ret
                    exact HQ7.out
                  | true =>
                    by_cases hae : n.ae < 268435456
                    · have HQ := Lib.hid (HYES.out (by simp) (by first | exact HF00.out | simp) (by first | exact fun _ => ⟨rfl, hae⟩ | simp [hae]) _ HB_7.out)
                      have haz : decide (n.ae < 268435456) = true := decide_eq_true hae
                      go_wp2_with fail
                      go_ret
                      exact HQ.out
                    · have haz : decide (n.ae < 268435456) = false := decide_eq_false hae
                      go_wp2_with fail
                      go_ret
                      exact HQ7.out
            · subst hE3
              go_wp2_with fail
              go_ret
              exact HQN.out
end Go.Proofs.Ytfadpiipigkocaa
