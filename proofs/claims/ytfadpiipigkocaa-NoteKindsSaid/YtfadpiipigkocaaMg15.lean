/-
  Several texts in one: NtSmall, NtArgs, ArgRowR, NtArgsR.
-/
import Derived.Test.YtfadpiipigkocaaMg14
import Derived.Test.YtfadpiipigkocaaMg09
import Derived.BigQuiet
import Derived.Test.YtfadpiipigkocaaMg13
import Derived.Test.YtfadpiipigkocaaMg10
import Derived.Test.YtfadpiipigkocaaMg06
namespace Go.Proofs.Ytfadpiipigkocaa
open Go.RowKit Go.Gz

/-- a note as plain data, but for where its lists lie. -/
structure NtAg (w : World) (n : NtL) (P : NtP) : Prop where
  rs : Recs w P.rp n.rep.ls
  ls : Recs w P.lp n.ls
  la : RowP w P.ap n.la
  les : ∀ e ∈ n.la, ArgIn w e
  sh : RowK KS w P.hp n.sh
  rl : n.rep.ls.length ≤ 9223372036854775807
  ll : n.ls.length ≤ 9223372036854775807
  al : n.la.length ≤ 9223372036854775807
  hl : n.sh.length ≤ 9223372036854775807
theorem NtAg.below {w w' : World} {n : NtL} {P : NtP} (h : NtAg w n P) (hb : Below w.heap.size w w') : NtAg w' n P :=
  ⟨h.rs.below hb, h.ls.below hb, h.la.below hb, fun e he => ⟨(h.les e he).rs.below hb, (h.les e he).lo, (h.les e he).pc, (h.les e he).wf, (h.les e he).s⟩, h.sh.below hb, h.rl, h.ll, h.al, h.hl⟩
/-- there is little of each list. -/
structure NtFew (n : NtL) : Prop where
  rl : n.rep.ls.length ≤ 300
  ll : n.ls.length ≤ 100
  al : n.la.length ≤ 21
  ael : ∀ e ∈ n.la, e.r.ls.length ≤ 300
  hl : n.sh.length ≤ 60
def RetSmN (w : World) (n : NtL) (e : Ending) (w' : World) : Prop := ∃ b, e = .returned (.bool b) ∧ (b = true → NtFew n) ∧ Below w.heap.size w w'
/-- a box of a note's cells, behind whatever came after it. -/
theorem nt_box {w W wr : World} {c : Array Value} {t : TypeId} (hW : w.alloc (.cells c t) = W) (hb : Below W.heap.size W wr) (i : Nat) : wr.cell? ⟨w.heap.size, i, none⟩ = c[i]? := by
  subst hW
  have h1 : (w.alloc (.cells c t)).heap[w.heap.size]? = some (.cells c t (0, 0)) := new_block _ _ _
  rw [hb.cell (p := ⟨w.heap.size, i, none⟩) (by simp)]
  exact cell_at h1 i

set_option maxHeartbeats 16000000 in
set_option maxRecDepth 100000 in
theorem smallN_any (n : NtL) (P : NtP) (w : World) (hin : NtAg w n P) : Calls Try.prog 5 #[ntV n P] w (RetSmN w n) := by
  have HIN := Lib.hid hin
  obtain ⟨c, hc⟩ : ∃ c, (ntList n P).toArray = c := ⟨_, rfl⟩
  unfold ntV
  rw [hc]
  have A8 := Lib.hid (show c[8]? = some (.string (strB n.ask.t)) by rw [← hc]; rfl)
  have A9 := Lib.hid (show c[9]? = some (.string (strB n.ask.v)) by rw [← hc]; rfl)
  have A10 := Lib.hid (show c[10]? = some (.string (strB n.ask.f)) by rw [← hc]; rfl)
  have A11 := Lib.hid (show c[11]? = some (.string (strB n.ask.u)) by rw [← hc]; rfl)
  have A13 := Lib.hid (show c[13]? = some (.int .i64 n.rep.c) by rw [← hc]; rfl)
  have A14 := Lib.hid (show c[14]? = some (.int .i64 n.rep.s) by rw [← hc]; rfl)
  have A15 := Lib.hid (show c[15]? = some (.int .i64 n.rep.e) by rw [← hc]; rfl)
  have A16 := Lib.hid (show c[16]? = some (.bool n.rep.fd) by rw [← hc]; rfl)
  have A17 := Lib.hid (show c[17]? = some (.string (strB n.rep.v)) by rw [← hc]; rfl)
  have A18 := Lib.hid (show c[18]? = some (.slice P.rp n.rep.ls.length P.rk) by rw [← hc]; rfl)
  have A19 := Lib.hid (show c[19]? = some (.string (strB n.rep.nx)) by rw [← hc]; rfl)
  have A20 := Lib.hid (show c[20]? = some (.bool n.rep.mr) by rw [← hc]; rfl)
  have A21 := Lib.hid (show c[21]? = some (.string (strB n.sf)) by rw [← hc]; rfl)
  have A22 := Lib.hid (show c[22]? = some (.string (strB n.st)) by rw [← hc]; rfl)
  have A23 := Lib.hid (show c[23]? = some (.slice P.lp n.ls.length P.lk) by rw [← hc]; rfl)
  have A24 := Lib.hid (show c[24]? = some (.slice P.ap n.la.length P.ak) by rw [← hc]; rfl)
  have A25 := Lib.hid (show c[25]? = some (.int .i64 n.ae) by rw [← hc]; rfl)
  have A26 := Lib.hid (show c[26]? = some (.slice P.hp n.sh.length P.hk) by rw [← hc]; rfl)
  obtain ⟨W, hW⟩ : ∃ W, w.alloc (.cells c 35) = W := ⟨_, rfl⟩
  have HC := Lib.hid (show ∀ wr, Below W.heap.size W wr → ∀ i, wr.cell? ⟨w.heap.size, i, none⟩ = c[i]? from fun wr hb i => nt_box hW hb i)
  have HBW := Lib.hid (show Below w.heap.size w W from hW ▸ (Below.refl _ _).alloc (Nat.le_refl _) _)
  have HW := Lib.hid hW
  have HF := Lib.hid (show ∀ b : Bool, (b = true → NtFew n) → ∀ w', Below W.heap.size W w' → RetSmN w n (.returned (.bool b)) w' from fun b h w' hb => ⟨b, rfl, h, HBW.out.trans (hb.mono HBW.out.size)⟩)
  obtain ⟨N, hN⟩ : ∃ N, n.ls.length = N := ⟨_, rfl⟩
  obtain ⟨M, hM⟩ : ∃ M, n.la.length = M := ⟨_, rfl⟩
  have HN := Lib.hid hN
  have HM := Lib.hid hM
  have hNz : (N : Int) ≤ 9223372036854775807 := by have := hin.ll; omega
  have hMz : (M : Int) ≤ 9223372036854775807 := by have := hin.al; omega
  rw [hN] at A23
  rw [hM] at A24
  clear hc hW hN hM hin
  go_enter Try.func5, Try.ntmps5
  go_upto_region 1 with fail
  rw [HW.out]
  have c8 := (HC.out W (Below.refl _ _) 8).trans A8.out
  have c9 := (HC.out W (Below.refl _ _) 9).trans A9.out
  have c10 := (HC.out W (Below.refl _ _) 10).trans A10.out
  have c11 := (HC.out W (Below.refl _ _) 11).trans A11.out
  have c21 := (HC.out W (Below.refl _ _) 21).trans A21.out
  have c22 := (HC.out W (Below.refl _ _) 22).trans A22.out
  go_wp2_with fail
  clear c8 c9 c10 c11 c21 c22
  go_loopw [3, 4] (fun x i wr => ∃ (k : Nat) (z : Int), k ≤ N ∧ i = .int .i64 k ∧ x = .int .i64 z ∧ Hid (Below W.heap.size W wr)) (fun _ i _ => N - (RowKit.intOf i).toNat)
  case atStart => exact ⟨0, _, Nat.zero_le _, rfl, rfl, Lib.hid (Below.refl _ _)⟩
  case round =>
    obtain ⟨k, z, hk, rfl, rfl, HB⟩ := hrel
    have c23 := (HC.out _ HB.out 23).trans A23.out
    by_cases hlt : k < N
    · have hltz : (k : Int) < (N : Int) := by omega
      obtain ⟨b, o, hpe, hbl, r1, r2⟩ := rec_cell HIN.out.ls (HBW.out.trans (HB.out.mono HBW.out.size)) (show k < n.ls.length by rw [HN.out]; exact hlt)
      rw [hpe] at c23
      generalize strB (n.ls.getD k ([], [])).1 = s1 at r1
      generalize strB (n.ls.getD k ([], [])).2 = s2 at r2
      go_upto_region 5 with fail
      go_quiet (fail)
      go_wp2_with fail
      go_roundw
      case rel => exact ⟨k + 1, _, by omega, by go_num, rfl, Lib.hid (below_drewN HB.out _)⟩
      case measure => simp [RowKit.intOf]; omega
    · obtain rfl : k = N := by omega
      have hltz : ¬ (k : Int) < (k : Int) := by omega
      go_wp2_with fail
      clear c23
      go_loopw [5] (fun i wr => ∃ j : Nat, i = .int .i64 j ∧ j ≤ M ∧ j ≤ 21 ∧ Hid (∀ e ∈ n.la.take j, e.r.ls.length ≤ 300) ∧ Hid (Below W.heap.size W wr)) (fun i _ => M - (RowKit.intOf i).toNat)
      case atStart => exact ⟨0, rfl, Nat.zero_le _, by omega, Lib.hid (by simp), HB⟩
      case round =>
        obtain ⟨j, rfl, hjn, hj1, HT, HB2⟩ := hrel
        have c24 := (HC.out _ HB2.out 24).trans A24.out
        by_cases hjt : j < M
        · have hjz : (j : Int) < (M : Int) := by omega
          have hkx : j < n.la.length := by rw [HM.out]; exact hjt
          obtain ⟨e, he⟩ : ∃ e, n.la.getD j default = e := ⟨_, rfl⟩
          have hie := HIN.out.les e (by rw [← he]; simp [List.getD, hkx])
          obtain ⟨pb, po, hpe, hpb, hce⟩ := rep_cells HIN.out.la (HBW.out.trans (HB2.out.mono HBW.out.size)) hkx
          rw [he] at hce
          rw [hpe] at c24
          have HTK := Lib.hid (show n.la.take (j + 1) = n.la.take j ++ [e] by
            rw [List.take_succ_eq_append_getElem hkx, ← he]
            simp [List.getD, hkx])
          have CS := Lib.hid (smallReply_any e.r e.p e.k wr hie.lo (hie.rs.below (HBW.out.trans (HB2.out.mono HBW.out.size))))
          unfold repV at CS
          rcases Nat.lt_or_ge 20 j with h1 | h1
          · have h1z : (20 : Int) < (j : Int) := by omega
            have h1d : decide ((20 : Int) < (j : Int)) = true := decide_eq_true h1z
            have HQ := Lib.hid (HF.out false (fun h => by (cases h)) _ HB2.out)
            clear hce he hie
            go_wp2_with fail
            go_ret
            exact HQ.out
          · have h1z : ¬ (20 : Int) < (j : Int) := by omega
            have h1d : decide ((20 : Int) < (j : Int)) = false := decide_eq_false h1z
            obtain ⟨es, er, ep, ek⟩ := e
            have z0 := hce 0 (by decide)
            have z1 := hce 1 (by decide)
            have z2 := hce 2 (by decide)
            have z3 := hce 3 (by decide)
            have z4 := hce 4 (by decide)
            have z5 := hce 5 (by decide)
            have z6 := hce 6 (by decide)
            have z7 := hce 7 (by decide)
            simp only [Ent.list, Nat.add_zero] at z0 z1 z2 z3 z4 z5 z6 z7
            simp only at CS HTK
            clear hce he hie
            go_wp2_with (go_at_call 13; refine CS.out.mono ?_; rintro e w2 ⟨b, rfl, hb, hbl⟩; have z4' := (hbl.cell (p := ⟨pb, po + j * 8 + 4, none⟩) (by have := HB2.out.size; have := HBW.out.size; show pb < _; omega)).trans z4; have c24' := (hbl.cell (p := ⟨w.heap.size, 24, none⟩) (by have := HB2.out.size; have := (show w.heap.size < W.heap.size by rw [← HW.out]; simp); show w.heap.size < _; omega)).trans c24; have HS := Lib.hid hb; have HB3 := Lib.hid (HB2.out.trans (hbl.mono HB2.out.size)); clear hb hbl; cases b)
            · go_ret
              exact HF.out false (fun h => by cases h) _ HB3.out
            · go_ret
              exact HF.out false (fun h => by cases h) _ HB3.out
            · refine ⟨⟨j + 1, by go_num, hjt, by omega, Lib.hid fun e he => ?_, HB3⟩, by simp [RowKit.intOf]; omega⟩
              rw [HTK.out] at he
              rcases List.mem_append.1 he with he | he
              · exact HT.out e he
              · obtain rfl : e = ⟨es, er, ep, ek⟩ := by simpa using he
                exact HS.out (by first | rfl | trivial | assumption)
        · have hjz : ¬ (j : Int) < (M : Int) := by omega
          have hje : j = M := by omega
          have HAL := Lib.hid (show n.la.length ≤ 21 by rw [HM.out]; omega)
          have HAE := Lib.hid (show ∀ e ∈ n.la, e.r.ls.length ≤ 300 by
            have := HT.out
            rwa [List.take_of_length_le (by rw [HM.out]; omega)] at this)
          have CA := Lib.hid (small_any _ n.ae n.sh P.hp P.hk (HIN.out.sh.below (HBW.out.trans (HB2.out.mono HBW.out.size))) HIN.out.hl)
          have CR := Lib.hid (fun w1 (h : Below w.heap.size w w1) => smallReply_any n.rep P.rp P.rk w1 HIN.out.rl (HIN.out.rs.below h))
          unfold repV at CR
          have c23 := (HC.out _ HB2.out 23).trans A23.out
          have c25 := (HC.out _ HB2.out 25).trans A25.out
          have c26 := (HC.out _ HB2.out 26).trans A26.out
          have HQ0 := Lib.hid (HF.out false (fun h => by (cases h)) _ HB2.out)
          clear HT hje
          by_cases hz : z ≤ 20000
          · have hzd : decide (z ≤ 20000) = true := decide_eq_true hz
            by_cases h100 : (k : Int) ≤ 100
            · have h100d : decide ((k : Int) ≤ 100) = true := decide_eq_true h100
              have HLL := Lib.hid (show n.ls.length ≤ 100 by rw [HN.out]; omega)
              go_wp2_with (first | (go_at_call 14; refine CA.out.mono ?_; rintro e w3 ⟨b, rfl, hb, hbl⟩; have HB3 := Lib.hid (HB2.out.trans (hbl.mono HB2.out.size)); have HS := Lib.hid hb; clear hb hbl c23 c24 c25 c26; have CR2 := Lib.hid (CR.out w3 (HBW.out.trans (HB3.out.mono HBW.out.size))); have c13 := (HC.out w3 HB3.out 13).trans A13.out; have c14 := (HC.out w3 HB3.out 14).trans A14.out; have c15 := (HC.out w3 HB3.out 15).trans A15.out; have c16 := (HC.out w3 HB3.out 16).trans A16.out; have c17 := (HC.out w3 HB3.out 17).trans A17.out; have c18 := (HC.out w3 HB3.out 18).trans A18.out; have c19 := (HC.out w3 HB3.out 19).trans A19.out; have c20 := (HC.out w3 HB3.out 20).trans A20.out; cases b) | (go_at_call 13; refine CR2.out.mono ?_; rintro e w4 ⟨b, rfl, hb, hbl⟩; have HQ4 := Lib.hid (HF.out b (fun h => ⟨hb h, HLL.out, HAL.out, HAE.out, HS.out (by first | rfl | trivial | assumption)⟩) _ (HB3.out.trans (hbl.mono HB3.out.size))); clear hb hbl))
              · go_ret
                exact HF.out false (fun h => by cases h) _ HB3.out
              · go_ret
                exact HQ4.out
            · have h100d : decide ((k : Int) ≤ 100) = false := decide_eq_false h100
              go_wp2_with fail
              go_ret
              exact HQ0.out
          · have hzd : decide (z ≤ 20000) = false := decide_eq_false hz
            go_wp2_with fail
            go_ret
            exact HQ0.out
end Go.Proofs.Ytfadpiipigkocaa
namespace Go.Proofs.Ytfadpiipigkocaa
open Go.RowKit Go.ChangeShapes Go.WideShapes Go.Gz Go.Deep

set_option maxRecDepth 100000 in
/-- an ask as it is read. -/
theorem ask_of {H : Type} {enc : TypeId × Value → H} {W : World} {fuel : Nat} {cl : List Value} {x : DataW H × List MemPlace} (h : DataW.trod enc Try.prog W 0 (fun _ => true) true fuel 23 cl = some x) :
    ∃ a : AskL, cl = [.int .i64 a.d, .int .i64 a.c, .int .i64 a.s, .string (strB a.t), .string (strB a.v), .string (strB a.f), .string (strB a.u), .int .i64 a.m] := by
  obtain ⟨ys, n, _, _, hlen, hyl, hf⟩ := DataW.trod_struct Try.underlying23 h
  have hC : Try.prog.cellsOf 23 = 8 := by kernel_rfl
  rw [hC] at hlen
  have c1 : Try.prog.cellsOf 9 = 1 := by kernel_rfl
  have c3 : Try.prog.cellsOf 3 = 1 := by kernel_rfl
  match cl, hlen with
  | [v0, v1, v2, v3, v4, v5, v6, v7], _ =>
    match ys, hyl with
    | [y0, y1, y2, y3, y4, y5, y6, y7], _ =>
      have h0 : DataW.trod enc Try.prog W 0 (fun _ => true) true n 3 [v0] = some y0 := by simpa [c1, c3] using hf 0 _ rfl
      have h1 : DataW.trod enc Try.prog W 0 (fun _ => true) true n 3 [v1] = some y1 := by simpa [c1, c3] using hf 1 _ rfl
      have h2 : DataW.trod enc Try.prog W 0 (fun _ => true) true n 3 [v2] = some y2 := by simpa [c1, c3] using hf 2 _ rfl
      have h3 : DataW.trod enc Try.prog W 0 (fun _ => true) true n 9 [v3] = some y3 := by simpa [c1, c3] using hf 3 _ rfl
      have h4 : DataW.trod enc Try.prog W 0 (fun _ => true) true n 9 [v4] = some y4 := by simpa [c1, c3] using hf 4 _ rfl
      have h5 : DataW.trod enc Try.prog W 0 (fun _ => true) true n 9 [v5] = some y5 := by simpa [c1, c3] using hf 5 _ rfl
      have h6 : DataW.trod enc Try.prog W 0 (fun _ => true) true n 9 [v6] = some y6 := by simpa [c1, c3] using hf 6 _ rfl
      have h7 : DataW.trod enc Try.prog W 0 (fun _ => true) true n 3 [v7] = some y7 := by simpa [c1, c3] using hf 7 _ rfl
      obtain ⟨d, rfl⟩ := one_int Try.underlying3 h0
      obtain ⟨c, rfl⟩ := one_int Try.underlying3 h1
      obtain ⟨s, rfl⟩ := one_int Try.underlying3 h2
      obtain ⟨t, rfl, _⟩ := one_text Try.underlying9 h3
      obtain ⟨v, rfl, _⟩ := one_text Try.underlying9 h4
      obtain ⟨f, rfl, _⟩ := one_text Try.underlying9 h5
      obtain ⟨u, rfl, _⟩ := one_text Try.underlying9 h6
      obtain ⟨m, rfl⟩ := one_int Try.underlying3 h7
      exact ⟨⟨d, c, s, t, v, f, u, m⟩, rfl⟩
set_option maxRecDepth 100000 in
/-- a list of replies as it is read. -/
theorem reps_of {H : Type} {enc : TypeId × Value → H} {W : World} {fuel : Nat} {cs : List Value} {x : DataW H × List MemPlace} (hf : DataW.trod enc Try.prog W 0 (fun _ => true) true fuel 30 cs = some x) :
    ∃ p X c, cs = [.slice p X.length c] ∧ RowP W p X ∧ (∀ e ∈ X, ArgIn W e) ∧ X.length ≤ 9223372036854775807 := by
  rcases open_slice Try.underlying30 hf with ⟨h, _⟩ | ⟨a, len, cap, m, n, D, Pl, h, _, hl, hm, hmm, hdl, hi⟩
  · exact ⟨none, [], 0, h, Or.inl rfl, fun x hx => by simp at hx, by simp⟩
  · subst h
    simp only [if_true] at hmm
    subst hmm
    unfold maxLen at hm
    have hC : Try.prog.cellsOf 27 = 8 := by kernel_rfl
    have each : ∀ i, i < len → ∃ e : Ent, ArgIn W e ∧ ∀ z, z < 8 → W.cell? ((a.add (i * 8)).add z) = e.list[z + 1]? := fun i hin => by
      obtain ⟨cs', hcs, ht⟩ := hi i (by omega)
      rw [hC] at hcs
      obtain ⟨e, rfl, he⟩ := rep_of2 ht
      obtain ⟨_, _, hat⟩ := World.cells?_some hcs
      refine ⟨e, he, fun z hz => ?_⟩
      rw [hat z hz, List.getElem?_tail]
    have pick : ∃ f : Nat → Ent, ∀ i, i < len → ArgIn W (f i) ∧ ∀ z, z < 8 → W.cell? ((a.add (i * 8)).add z) = (f i).list[z + 1]? :=
      ⟨fun i => if h : i < len then Classical.choose (each i h) else default, fun i h => by simp only [dif_pos h]; exact Classical.choose_spec (each i h)⟩
    obtain ⟨f, hf2⟩ := pick
    have hget : ∀ j, j < len → ((List.range len).map f).getD j default = f j := fun j hj => by simp [List.getD, hj]
    refine ⟨some a, (List.range len).map f, m, by simp, ?_, fun e he => ?_, by simp; omega⟩
    · by_cases h0 : len = 0
      · exact Or.inl (by subst h0; rfl)
      · have hc0 := (hf2 0 (by omega)).2 0 (by omega)
        obtain ⟨b, off, spot⟩ := a
        have hc0' : W.cell? ⟨b, off, spot⟩ = some (.int .i64 (f 0).r.c) := by
          have e : ((⟨b, off, spot⟩ : Addr).add (0 * 8)).add 0 = ⟨b, off, spot⟩ := by simp [Addr.add]
          rw [e] at hc0
          rw [hc0]; rfl
        have hsp : spot = none := Go.Proofs.cell_spot hc0'
        subst hsp
        refine Or.inr ⟨b, off, rfl, World.block_lt_of_cell? W _ hc0', fun j hj z hz => ?_⟩
        have hj' : j < len := by simpa using hj
        rw [hget j hj']
        have h3 := (hf2 j hj').2 z hz
        simp only [Addr.add_lit] at h3
        exact h3
    · obtain ⟨i, hi', rfl⟩ := List.mem_map.1 he
      exact (hf2 i (by simpa using hi')).1
set_option maxRecDepth 100000 in
/-- an argument that is a note as plain data. -/
theorem arg_row {H : Type} {enc : TypeId × Value → H} {W : World} {b0 : Nat} {v : Value} {d : DataW H} {ps : List MemPlace} (hval : Value.okWide Try.prog W .any b0 35 v) (hd : DataW.Trod enc Try.prog W 0 (fun _ => true) true 35 v d ps) :
    ∃ (n : NtL) (P : NtP), v = ntV n P ∧ NtAg W n P := by
  obtain ⟨cs, rfl, hsz⟩ := okWide_struct Try.underlying35 hval
  obtain ⟨fuel, h⟩ := hd
  obtain ⟨ys, n, _, _, hlen, hyl, hf⟩ := DataW.trod_struct Try.underlying35 h
  have hC : Try.prog.cellsOf 35 = 27 := by kernel_rfl
  have k0 : Try.prog.cellsOf 3 = 1 := by kernel_rfl
  have k1 : Try.prog.cellsOf 23 = 8 := by kernel_rfl
  have k2 : Try.prog.cellsOf 27 = 8 := by kernel_rfl
  have k3 : Try.prog.cellsOf 29 = 2 := by kernel_rfl
  have k4 : Try.prog.cellsOf 25 = 1 := by kernel_rfl
  have k5 : Try.prog.cellsOf 30 = 1 := by kernel_rfl
  have k6 : Try.prog.cellsOf 33 = 2 := by kernel_rfl
  have k7 : Try.prog.cellsOf 9 = 1 := by kernel_rfl
  rw [hC] at hlen
  obtain ⟨cl⟩ := cs
  have hcl : (Value.agg ⟨cl⟩).cells.toList = cl := rfl
  rw [hcl] at hlen hf
  match cl, hlen with
  | [v0, v1, v2, v3, v4, v5, v6, v7, v8, v9, v10, v11, v12, v13, v14, v15, v16, v17, v18, v19, v20, v21, v22, v23, v24, v25, v26], _ =>
    match ys, hyl with
    | [y0, y1, y2, y3, y4, y5, y6, y7, y8, y9, y10], _ =>
      have h0 : DataW.trod enc Try.prog W 0 (fun _ => true) true n 3 [v0] = some y0 := by simpa [k0, k1, k2, k3, k4, k5, k6] using hf 0 _ rfl
      have h1 : DataW.trod enc Try.prog W 0 (fun _ => true) true n 3 [v1] = some y1 := by simpa [k0, k1, k2, k3, k4, k5, k6] using hf 1 _ rfl
      have h2 : DataW.trod enc Try.prog W 0 (fun _ => true) true n 3 [v2] = some y2 := by simpa [k0, k1, k2, k3, k4, k5, k6] using hf 2 _ rfl
      have h3 : DataW.trod enc Try.prog W 0 (fun _ => true) true n 3 [v3] = some y3 := by simpa [k0, k1, k2, k3, k4, k5, k6] using hf 3 _ rfl
      have h4 : DataW.trod enc Try.prog W 0 (fun _ => true) true n 3 [v4] = some y4 := by simpa [k0, k1, k2, k3, k4, k5, k6] using hf 4 _ rfl
      have h5 : DataW.trod enc Try.prog W 0 (fun _ => true) true n 23 [v5, v6, v7, v8, v9, v10, v11, v12] = some y5 := by simpa [k0, k1, k2, k3, k4, k5, k6] using hf 5 _ rfl
      have h6 : DataW.trod enc Try.prog W 0 (fun _ => true) true n 27 [v13, v14, v15, v16, v17, v18, v19, v20] = some y6 := by simpa [k0, k1, k2, k3, k4, k5, k6] using hf 6 _ rfl
      have h7 : DataW.trod enc Try.prog W 0 (fun _ => true) true n 29 [v21, v22] = some y7 := by simpa [k0, k1, k2, k3, k4, k5, k6] using hf 7 _ rfl
      have h8 : DataW.trod enc Try.prog W 0 (fun _ => true) true n 25 [v23] = some y8 := by simpa [k0, k1, k2, k3, k4, k5, k6] using hf 8 _ rfl
      have h9 : DataW.trod enc Try.prog W 0 (fun _ => true) true n 30 [v24] = some y9 := by simpa [k0, k1, k2, k3, k4, k5, k6] using hf 9 _ rfl
      have h10 : DataW.trod enc Try.prog W 0 (fun _ => true) true n 33 [v25, v26] = some y10 := by simpa [k0, k1, k2, k3, k4, k5, k6] using hf 10 _ rfl
      obtain ⟨kd, rfl⟩ := one_int Try.underlying3 h0
      obtain ⟨fr, rfl⟩ := one_int Try.underlying3 h1
      obtain ⟨to_, rfl⟩ := one_int Try.underlying3 h2
      obtain ⟨ep, rfl⟩ := one_int Try.underlying3 h3
      obtain ⟨tk, rfl⟩ := one_int Try.underlying3 h4
      obtain ⟨ask, ea⟩ := ask_of h5
      obtain ⟨rep, rp, rk, er, hr1, hr2⟩ := rep_of h6
      obtain ⟨zs, n2, _, _, _, hzl, hg⟩ := DataW.trod_struct Try.underlying29 h7
      match zs, hzl with
      | [z0, z1], _ =>
        have g0 : DataW.trod enc Try.prog W 0 (fun _ => true) true n2 9 [v21] = some z0 := by simpa [k7] using hg 0 _ rfl
        have g1 : DataW.trod enc Try.prog W 0 (fun _ => true) true n2 9 [v22] = some z1 := by simpa [k7] using hg 1 _ rfl
        obtain ⟨sf, rfl, _⟩ := one_text Try.underlying9 g0
        obtain ⟨st, rfl, _⟩ := one_text Try.underlying9 g1
        obtain ⟨lp, ls, lk, el, hl1, hl2⟩ := recs_of h8
        obtain ⟨ap, la, ak, ela, ha1, ha2, ha3⟩ := reps_of h9
        obtain ⟨ae, hp, sh, hk, eh, hh1, hh2, _, _⟩ := at_of h10
        simp only [List.cons.injEq, and_true] at ea er el ela eh
        obtain ⟨rfl, rfl, rfl, rfl, rfl, rfl, rfl, rfl⟩ := ea
        obtain ⟨rfl, rfl, rfl, rfl, rfl, rfl, rfl, rfl⟩ := er
        obtain rfl := el
        obtain rfl := ela
        obtain ⟨rfl, rfl⟩ := eh
        exact ⟨⟨kd, fr, to_, ep, tk, ask, rep, sf, st, ls, la, ae, sh⟩, ⟨rp, rk, lp, lk, ap, ak, hp, hk⟩, rfl, ⟨hr1, hl1, ha1, ha2, hh1, hr2, hl2, ha3, hh2⟩⟩
end Go.Proofs.Ytfadpiipigkocaa
namespace Go.Proofs.Ytfadpiipigkocaa
open Go.RowKit Go.ChangeShapes Go.WideShapes Go.Gz Go.Deep

theorem wts_memR {H : Type} (P : Program) (e : TypeId) {d : DataW H} {x : Nat} : ∀ (l : List (DataW H)), d ∈ l → x ∈ d.weights P e → x ∈ DataW.weightsAll P e l
  | [], h, _ => by cases h
  | c :: l, h, hx => by
    unfold DataW.weightsAll
    rcases List.mem_cons.1 h with rfl | h
    · exact List.mem_append_left _ hx
    · exact List.mem_append_right _ (wts_memR P e l h hx)
theorem one_textR {H : Type} {enc : TypeId × Value → H} {P : Program} {W : World} {t : TypeId} {fuel : Nat} {v : Value} {x : DataW H × List MemPlace} (ht : P.underlying t = some .string) (h : DataW.trod enc P W 0 (fun _ => true) true fuel t [v] = some x) (hw : ∀ y ∈ x.1.weights P t, y ≤ reachBytes) : ∃ s : List UInt8, v = .string (strB s) ∧ s.length ≤ 140737488351232 := by
  obtain ⟨s, hs, hx, _⟩ := DataW.trod_string ht h
  injection hs with hs _
  subst hs
  refine ⟨s.data.toList, by rw [strB_of], ?_⟩
  have := hw s.data.toList.length (by rw [hx]; unfold DataW.weights; simp)
  unfold reachBytes at this
  omega
theorem rowk_ofR {H α : Type} [Inhabited α] (K : SK α) (Pr : α → Prop) {enc : TypeId × Value → H} {P : Program} {W : World} {t T : TypeId} {fuel : Nat} {cs : List Value} {x : DataW H × List MemPlace} (hT : P.underlying T = some (.slice t)) (hC : P.cellsOf t = K.n)
    (hel : ∀ (fuel : Nat) (cs : List Value) (x : DataW H × List MemPlace), DataW.trod enc P W 0 (fun _ => true) true fuel t cs = some x → (∀ y ∈ x.1.weights P t, y ≤ reachBytes) → ∃ r, cs = K.cf r ∧ Pr r)
    (h : DataW.trod enc P W 0 (fun _ => true) true fuel T cs = some x) (hw : ∀ y ∈ x.1.weights P T, y ≤ reachBytes) : ∃ p L c, cs = [.slice p L.length c] ∧ RowK K W p L ∧ L.length ≤ 9223372036854775807 ∧ (p = none → c = 0) ∧ ∀ r ∈ L, Pr r := by
  rcases open_slice hT h with ⟨h, _⟩ | ⟨a, len, cap, m, n, D, Pl, h, _, hl, hm, hmm, hdl, hi⟩
  · exact ⟨none, [], 0, h, Or.inl rfl, by simp, fun _ => rfl, fun r hr => by simp at hr⟩
  · subst h
    simp only [if_true] at hmm
    subst hmm
    unfold maxLen at hm
    have each : ∀ i, i < len → ∃ r : α, (∀ z, z < K.n → W.cell? ((a.add (i * K.n)).add z) = (K.cf r)[z]?) ∧ Pr r := fun i hin => by
      obtain ⟨cs', hcs, ht⟩ := hi i (by omega)
      rw [hC] at hcs
      obtain ⟨r, rfl, hpr⟩ := hel _ _ _ ht (fun y hy => hw y (by
        rw [hdl]
        simp only [DataW.weights, hT]
        exact List.mem_cons_of_mem _ (List.mem_append_left _ (wts_memR _ _ _ (List.mem_map.2 ⟨i, List.mem_range.2 hin, rfl⟩) hy))))
      obtain ⟨_, _, hat⟩ := World.cells?_some hcs
      exact ⟨r, hat, hpr⟩
    have pick : ∃ f : Nat → α, ∀ i, i < len → (∀ z, z < K.n → W.cell? ((a.add (i * K.n)).add z) = (K.cf (f i))[z]?) ∧ Pr (f i) :=
      ⟨fun i => if h : i < len then Classical.choose (each i h) else default, fun i h => by simp only [dif_pos h]; exact Classical.choose_spec (each i h)⟩
    obtain ⟨f, hf2⟩ := pick
    have hget : ∀ j, j < len → ((List.range len).map f).getD j default = f j := fun j hj => by simp [List.getD, hj]
    refine ⟨some a, (List.range len).map f, m, by simp, ?_, by simp; omega, (fun h => by cases h), fun r hr => by
      obtain ⟨i, hi2, rfl⟩ := List.mem_map.1 hr
      exact (hf2 i (by simpa using hi2)).2⟩
    by_cases h0 : len = 0
    · exact Or.inl (by subst h0; rfl)
    · have hc0 := (hf2 0 (by omega)).1 0 K.pos
      obtain ⟨b, off, spot⟩ := a
      obtain ⟨v0, hv0⟩ : ∃ v, (K.cf (f 0))[0]? = some v := ⟨_, List.getElem?_eq_getElem (by rw [K.len]; exact K.pos)⟩
      rw [hv0] at hc0
      have hc0' : W.cell? ⟨b, off + 0 * K.n + 0, spot⟩ = some v0 := by
        have e : ((⟨b, off, spot⟩ : Addr).add (0 * K.n)).add 0 = ⟨b, off, spot⟩ := by simp [Addr.add]
        rw [e] at hc0
        simpa using hc0
      have hsp : spot = none := Go.Proofs.cell_spot hc0'
      subst hsp
      refine Or.inr ⟨b, off, rfl, World.block_lt_of_cell? W _ hc0', fun j hj i hi' => ?_⟩
      have hj' : j < len := by simpa using hj
      have hz := (hf2 j hj').1 i hi'
      rw [hget j hj']
      simp only [Addr.add_lit] at hz
      exact hz
end Go.Proofs.Ytfadpiipigkocaa
namespace Go.Proofs.Ytfadpiipigkocaa
open Go.RowKit Go.ChangeShapes Go.WideShapes Go.Gz Go.Deep

/-- records within the form's reach. -/
def RchL (ls : List RecL) : Prop := ∀ r ∈ ls, r.1.length ≤ 140737488351232 ∧ r.2.length ≤ 140737488351232
set_option maxRecDepth 100000 in
theorem rec_ofR {H : Type} {enc : TypeId × Value → H} {W : World} {fuel : Nat} {cs : List Value} {x : DataW H × List MemPlace} (h : DataW.trod enc Try.prog W 0 (fun _ => true) true fuel 47 cs = some x) (hw : ∀ y ∈ x.1.weights Try.prog 47, y ≤ reachBytes) :
    ∃ s : RecL, cs = [.string (strB s.1), .string (strB s.2)] ∧ s.1.length ≤ 140737488351232 ∧ s.2.length ≤ 140737488351232 := by
  obtain ⟨ys, n, _, hx, hlen, hyl, hf⟩ := DataW.trod_struct Try.underlying47 h
  have hC : Try.prog.cellsOf 47 = 2 := by kernel_rfl
  rw [hC] at hlen
  have c1 : Try.prog.cellsOf 9 = 1 := by kernel_rfl
  match cs, hlen with
  | [v0, v1], _ =>
    match ys, hyl with
    | [y0, y1], _ =>
      have h0 : DataW.trod enc Try.prog W 0 (fun _ => true) true n 9 [v0] = some y0 := by simpa [c1] using hf 0 _ rfl
      have h1 : DataW.trod enc Try.prog W 0 (fun _ => true) true n 9 [v1] = some y1 := by simpa [c1] using hf 1 _ rfl
      obtain ⟨a, rfl, ha⟩ := one_textR Try.underlying9 h0 (fun y hy => hw y (by subst hx; simp only [DataW.weights, Try.underlying47, List.map_cons, List.map_nil, DataW.weightsEach]; exact (List.mem_append_left _ hy)))
      obtain ⟨b, rfl, hb⟩ := one_textR Try.underlying9 h1 (fun y hy => hw y (by subst hx; simp only [DataW.weights, Try.underlying47, List.map_cons, List.map_nil, DataW.weightsEach]; exact List.mem_append_right _ ((List.mem_append_left _ hy))))
      exact ⟨(a, b), rfl, ha, hb⟩

set_option maxRecDepth 100000 in
theorem recs_ofR {H : Type} {enc : TypeId × Value → H} {W : World} {fuel : Nat} {cs : List Value} {x : DataW H × List MemPlace} (hf : DataW.trod enc Try.prog W 0 (fun _ => true) true fuel 25 cs = some x) (hw : ∀ y ∈ x.1.weights Try.prog 25, y ≤ reachBytes) :
    ∃ p ls c, cs = [.slice p ls.length c] ∧ Recs W p ls ∧ ls.length ≤ 9223372036854775807 ∧ RchL ls := by
  rcases open_slice Try.underlying25 hf with ⟨h, _⟩ | ⟨a, len, cap, m, n, D, Pl, h, _, hl, hm, hmm, hdl, hi⟩
  · exact ⟨none, [], 0, h, Or.inl rfl, by simp, fun r hr => by simp at hr⟩
  · simp only [if_true] at hmm
    subst hmm
    unfold maxLen at hm
    have hC : Try.prog.cellsOf 47 = 2 := by kernel_rfl
    have each : ∀ i, i < len → ∃ r : RecL, (∀ z, z < 2 → W.cell? ((a.add (i * 2)).add z) = [Value.string (strB r.1), .string (strB r.2)][z]?) ∧ r.1.length ≤ 140737488351232 ∧ r.2.length ≤ 140737488351232 := fun i hin => by
      obtain ⟨cs', hcs, ht⟩ := hi i (by omega)
      rw [hC] at hcs
      obtain ⟨r, rfl, hr1, hr2⟩ := rec_ofR ht (fun y hy => hw y (by
        rw [hdl]
        simp only [DataW.weights, Try.underlying25]
        exact List.mem_cons_of_mem _ (List.mem_append_left _ (wts_memR _ _ _ (List.mem_map.2 ⟨i, List.mem_range.2 hin, rfl⟩) hy))))
      obtain ⟨_, _, hat⟩ := World.cells?_some hcs
      exact ⟨r, hat, hr1, hr2⟩
    have pick : ∃ f : Nat → RecL, ∀ i, i < len → (∀ z, z < 2 → W.cell? ((a.add (i * 2)).add z) = [Value.string (strB (f i).1), .string (strB (f i).2)][z]?) ∧ (f i).1.length ≤ 140737488351232 ∧ (f i).2.length ≤ 140737488351232 :=
      ⟨fun i => if h : i < len then Classical.choose (each i h) else ([], []), fun i h => by simp only [dif_pos h]; exact Classical.choose_spec (each i h)⟩
    obtain ⟨f, hf2⟩ := pick
    have hget : ∀ j, j < len → ((List.range len).map f).getD j ([], []) = f j := fun j hj => by simp [List.getD, hj]
    refine ⟨some a, (List.range len).map f, m, by simp [h], ?_, by simp; omega, fun r hr => by
      obtain ⟨i, hi2, rfl⟩ := List.mem_map.1 hr
      exact (hf2 i (by simpa using hi2)).2⟩
    by_cases h0 : len = 0
    · exact Or.inl (by subst h0; rfl)
    · have hc0 := (hf2 0 (by omega)).1 0 (by omega)
      obtain ⟨b, off, spot⟩ := a
      have hc0' : W.cell? ⟨b, off + 0 * 2 + 0, spot⟩ = some (.string (strB (f 0).1)) := by
        have e : ((⟨b, off, spot⟩ : Addr).add (0 * 2)).add 0 = ⟨b, off, spot⟩ := by simp [Addr.add]
        rw [e] at hc0
        simpa using hc0
      have hsp : spot = none := Go.Proofs.cell_spot hc0'
      subst hsp
      refine Or.inr ⟨b, off, rfl, World.block_lt_of_cell? W _ hc0', fun j hj => ?_⟩
      have hj' : j < len := by simpa using hj
      rw [hget j hj']
      have hz := (hf2 j hj').1
      have z0 := hz 0 (by omega)
      have z1 := hz 1 (by omega)
      simp only [Addr.add_lit] at z0 z1
      exact ⟨z0, z1⟩

/-- a reply within the form's reach. -/
structure RchR (r : RepL) : Prop where
  v : r.v.length ≤ 140737488351232
  nx : r.nx.length ≤ 140737488351232
  ls : RchL r.ls
set_option maxRecDepth 100000 in
theorem rep_ofR {H : Type} {enc : TypeId × Value → H} {W : World} {fuel : Nat} {cs : List Value} {x : DataW H × List MemPlace} (h : DataW.trod enc Try.prog W 0 (fun _ => true) true fuel 27 cs = some x) (hw : ∀ y ∈ x.1.weights Try.prog 27, y ≤ reachBytes) :
    ∃ (r : RepL) (p : Option Addr) (k : Nat), cs = [.int .i64 r.c, .int .i64 r.s, .int .i64 r.e, .bool r.fd, .string (strB r.v), .slice p r.ls.length k, .string (strB r.nx), .bool r.mr] ∧ Recs W p r.ls ∧ r.ls.length ≤ 9223372036854775807 ∧ RchR r := by
  obtain ⟨ys, n, _, hx, hlen, hyl, hf⟩ := DataW.trod_struct Try.underlying27 h
  have hC : Try.prog.cellsOf 27 = 8 := by kernel_rfl
  rw [hC] at hlen
  have c1 : Try.prog.cellsOf 9 = 1 := by kernel_rfl
  have c3 : Try.prog.cellsOf 3 = 1 := by kernel_rfl
  have c4 : Try.prog.cellsOf 4 = 1 := by kernel_rfl
  have c5 : Try.prog.cellsOf 24 = 1 := by kernel_rfl
  have c6 : Try.prog.cellsOf 25 = 1 := by kernel_rfl
  match cs, hlen with
  | [v0, v1, v2, v3, v4, v5, v6, v7], _ =>
    match ys, hyl with
    | [y0, y1, y2, y3, y4, y5, y6, y7], _ =>
      have h0 : DataW.trod enc Try.prog W 0 (fun _ => true) true n 3 [v0] = some y0 := by simpa [c1, c3, c4, c5, c6] using hf 0 _ rfl
      have h1 : DataW.trod enc Try.prog W 0 (fun _ => true) true n 3 [v1] = some y1 := by simpa [c1, c3, c4, c5, c6] using hf 1 _ rfl
      have h2 : DataW.trod enc Try.prog W 0 (fun _ => true) true n 24 [v2] = some y2 := by simpa [c1, c3, c4, c5, c6] using hf 2 _ rfl
      have h3 : DataW.trod enc Try.prog W 0 (fun _ => true) true n 4 [v3] = some y3 := by simpa [c1, c3, c4, c5, c6] using hf 3 _ rfl
      have h4 : DataW.trod enc Try.prog W 0 (fun _ => true) true n 9 [v4] = some y4 := by simpa [c1, c3, c4, c5, c6] using hf 4 _ rfl
      have h5 : DataW.trod enc Try.prog W 0 (fun _ => true) true n 25 [v5] = some y5 := by simpa [c1, c3, c4, c5, c6] using hf 5 _ rfl
      have h6 : DataW.trod enc Try.prog W 0 (fun _ => true) true n 9 [v6] = some y6 := by simpa [c1, c3, c4, c5, c6] using hf 6 _ rfl
      have h7 : DataW.trod enc Try.prog W 0 (fun _ => true) true n 4 [v7] = some y7 := by simpa [c1, c3, c4, c5, c6] using hf 7 _ rfl
      obtain ⟨c, rfl⟩ := one_int Try.underlying3 h0
      obtain ⟨s, rfl⟩ := one_int Try.underlying3 h1
      obtain ⟨e, rfl⟩ := one_int Try.underlying24 h2
      obtain ⟨fd, rfl⟩ := one_bool Try.underlying4 h3
      obtain ⟨v, rfl, hv4⟩ := one_textR Try.underlying9 h4 (fun y hy => hw y (by subst hx; simp only [DataW.weights, Try.underlying27, List.map_cons, List.map_nil, DataW.weightsEach]; exact List.mem_append_right _ (List.mem_append_right _ (List.mem_append_right _ (List.mem_append_right _ ((List.mem_append_left _ hy)))))))
      obtain ⟨p, ls, k, e5, h9, h10, h11⟩ := recs_ofR h5 (fun y hy => hw y (by subst hx; simp only [DataW.weights, Try.underlying27, List.map_cons, List.map_nil, DataW.weightsEach]; exact List.mem_append_right _ (List.mem_append_right _ (List.mem_append_right _ (List.mem_append_right _ (List.mem_append_right _ ((List.mem_append_left _ hy))))))))
      obtain ⟨nx, rfl, hv6⟩ := one_textR Try.underlying9 h6 (fun y hy => hw y (by subst hx; simp only [DataW.weights, Try.underlying27, List.map_cons, List.map_nil, DataW.weightsEach]; exact List.mem_append_right _ (List.mem_append_right _ (List.mem_append_right _ (List.mem_append_right _ (List.mem_append_right _ (List.mem_append_right _ ((List.mem_append_left _ hy)))))))))
      obtain ⟨mr, rfl⟩ := one_bool Try.underlying4 h7
      injection e5 with e5 _
      subst e5
      exact ⟨⟨c, s, e, fd, v, ls, nx, mr⟩, p, k, rfl, h9, h10, hv4, hv6, h11⟩

set_option maxRecDepth 100000 in
theorem rep_of2R {H : Type} {enc : TypeId × Value → H} {W : World} {fuel : Nat} {cs : List Value} {x : DataW H × List MemPlace} (h : DataW.trod enc Try.prog W 0 (fun _ => true) true fuel 27 cs = some x) (hw : ∀ y ∈ x.1.weights Try.prog 27, y ≤ reachBytes) :
    ∃ e : Ent, cs = e.list.tail ∧ ArgIn W e ∧ RchR e.r := by
  obtain ⟨ys, n, _, hx, hlen, hyl, hf⟩ := DataW.trod_struct Try.underlying27 h
  have hC : Try.prog.cellsOf 27 = 8 := by kernel_rfl
  rw [hC] at hlen
  have c1 : Try.prog.cellsOf 9 = 1 := by kernel_rfl
  have c3 : Try.prog.cellsOf 3 = 1 := by kernel_rfl
  have c4 : Try.prog.cellsOf 4 = 1 := by kernel_rfl
  have c5 : Try.prog.cellsOf 24 = 1 := by kernel_rfl
  have c6 : Try.prog.cellsOf 25 = 1 := by kernel_rfl
  match cs, hlen with
  | [v0, v1, v2, v3, v4, v5, v6, v7], _ =>
    match ys, hyl with
    | [y0, y1, y2, y3, y4, y5, y6, y7], _ =>
      have h0 : DataW.trod enc Try.prog W 0 (fun _ => true) true n 3 [v0] = some y0 := by simpa [c1, c3, c4, c5, c6] using hf 0 _ rfl
      have h1 : DataW.trod enc Try.prog W 0 (fun _ => true) true n 3 [v1] = some y1 := by simpa [c1, c3, c4, c5, c6] using hf 1 _ rfl
      have h2 : DataW.trod enc Try.prog W 0 (fun _ => true) true n 24 [v2] = some y2 := by simpa [c1, c3, c4, c5, c6] using hf 2 _ rfl
      have h3 : DataW.trod enc Try.prog W 0 (fun _ => true) true n 4 [v3] = some y3 := by simpa [c1, c3, c4, c5, c6] using hf 3 _ rfl
      have h4 : DataW.trod enc Try.prog W 0 (fun _ => true) true n 9 [v4] = some y4 := by simpa [c1, c3, c4, c5, c6] using hf 4 _ rfl
      have h5 : DataW.trod enc Try.prog W 0 (fun _ => true) true n 25 [v5] = some y5 := by simpa [c1, c3, c4, c5, c6] using hf 5 _ rfl
      have h6 : DataW.trod enc Try.prog W 0 (fun _ => true) true n 9 [v6] = some y6 := by simpa [c1, c3, c4, c5, c6] using hf 6 _ rfl
      have h7 : DataW.trod enc Try.prog W 0 (fun _ => true) true n 4 [v7] = some y7 := by simpa [c1, c3, c4, c5, c6] using hf 7 _ rfl
      obtain ⟨c, rfl, hwf⟩ := one_int_wf Try.underlying3 h0
      obtain ⟨s, rfl, _⟩ := one_int_wf Try.underlying3 h1
      obtain ⟨e, rfl, _⟩ := one_int_wf Try.underlying24 h2
      obtain ⟨fd, rfl⟩ := one_bool Try.underlying4 h3
      obtain ⟨v, rfl, hv4⟩ := one_textR Try.underlying9 h4 (fun y hy => hw y (by subst hx; simp only [DataW.weights, Try.underlying27, List.map_cons, List.map_nil, DataW.weightsEach]; exact List.mem_append_right _ (List.mem_append_right _ (List.mem_append_right _ (List.mem_append_right _ ((List.mem_append_left _ hy)))))))
      obtain ⟨p, ls, k, e5, h9, h10, h11⟩ := recs_ofR h5 (fun y hy => hw y (by subst hx; simp only [DataW.weights, Try.underlying27, List.map_cons, List.map_nil, DataW.weightsEach]; exact List.mem_append_right _ (List.mem_append_right _ (List.mem_append_right _ (List.mem_append_right _ (List.mem_append_right _ ((List.mem_append_left _ hy))))))))
      obtain ⟨nx, rfl, hv6⟩ := one_textR Try.underlying9 h6 (fun y hy => hw y (by subst hx; simp only [DataW.weights, Try.underlying27, List.map_cons, List.map_nil, DataW.weightsEach]; exact List.mem_append_right _ (List.mem_append_right _ (List.mem_append_right _ (List.mem_append_right _ (List.mem_append_right _ (List.mem_append_right _ ((List.mem_append_left _ hy)))))))))
      obtain ⟨mr, rfl⟩ := one_bool Try.underlying4 h7
      injection e5 with e5 _
      subst e5
      exact ⟨⟨s, ⟨c, s, e, fd, v, ls, nx, mr⟩, p, k⟩, rfl, ⟨h9, h10, recs_none h5, hwf, rfl⟩, hv4, hv6, h11⟩

/-- an ask within the form's reach. -/
structure RchA (a : AskL) : Prop where
  t : a.t.length ≤ 140737488351232
  v : a.v.length ≤ 140737488351232
  f : a.f.length ≤ 140737488351232
  u : a.u.length ≤ 140737488351232
set_option maxRecDepth 100000 in
theorem ask_ofR {H : Type} {enc : TypeId × Value → H} {W : World} {fuel : Nat} {cl : List Value} {x : DataW H × List MemPlace} (h : DataW.trod enc Try.prog W 0 (fun _ => true) true fuel 23 cl = some x) (hw : ∀ y ∈ x.1.weights Try.prog 23, y ≤ reachBytes) :
    ∃ a : AskL, cl = [.int .i64 a.d, .int .i64 a.c, .int .i64 a.s, .string (strB a.t), .string (strB a.v), .string (strB a.f), .string (strB a.u), .int .i64 a.m] ∧ RchA a := by
  obtain ⟨ys, n, _, hx, hlen, hyl, hf⟩ := DataW.trod_struct Try.underlying23 h
  have hC : Try.prog.cellsOf 23 = 8 := by kernel_rfl
  rw [hC] at hlen
  have c1 : Try.prog.cellsOf 9 = 1 := by kernel_rfl
  have c3 : Try.prog.cellsOf 3 = 1 := by kernel_rfl
  match cl, hlen with
  | [v0, v1, v2, v3, v4, v5, v6, v7], _ =>
    match ys, hyl with
    | [y0, y1, y2, y3, y4, y5, y6, y7], _ =>
      have h0 : DataW.trod enc Try.prog W 0 (fun _ => true) true n 3 [v0] = some y0 := by simpa [c1, c3] using hf 0 _ rfl
      have h1 : DataW.trod enc Try.prog W 0 (fun _ => true) true n 3 [v1] = some y1 := by simpa [c1, c3] using hf 1 _ rfl
      have h2 : DataW.trod enc Try.prog W 0 (fun _ => true) true n 3 [v2] = some y2 := by simpa [c1, c3] using hf 2 _ rfl
      have h3 : DataW.trod enc Try.prog W 0 (fun _ => true) true n 9 [v3] = some y3 := by simpa [c1, c3] using hf 3 _ rfl
      have h4 : DataW.trod enc Try.prog W 0 (fun _ => true) true n 9 [v4] = some y4 := by simpa [c1, c3] using hf 4 _ rfl
      have h5 : DataW.trod enc Try.prog W 0 (fun _ => true) true n 9 [v5] = some y5 := by simpa [c1, c3] using hf 5 _ rfl
      have h6 : DataW.trod enc Try.prog W 0 (fun _ => true) true n 9 [v6] = some y6 := by simpa [c1, c3] using hf 6 _ rfl
      have h7 : DataW.trod enc Try.prog W 0 (fun _ => true) true n 3 [v7] = some y7 := by simpa [c1, c3] using hf 7 _ rfl
      obtain ⟨d, rfl⟩ := one_int Try.underlying3 h0
      obtain ⟨c, rfl⟩ := one_int Try.underlying3 h1
      obtain ⟨s, rfl⟩ := one_int Try.underlying3 h2
      obtain ⟨t, rfl, ht⟩ := one_textR Try.underlying9 h3 (fun y hy => hw y (by subst hx; simp only [DataW.weights, Try.underlying23, List.map_cons, List.map_nil, DataW.weightsEach]; exact List.mem_append_right _ (List.mem_append_right _ (List.mem_append_right _ ((List.mem_append_left _ hy))))))
      obtain ⟨v, rfl, hv⟩ := one_textR Try.underlying9 h4 (fun y hy => hw y (by subst hx; simp only [DataW.weights, Try.underlying23, List.map_cons, List.map_nil, DataW.weightsEach]; exact List.mem_append_right _ (List.mem_append_right _ (List.mem_append_right _ (List.mem_append_right _ ((List.mem_append_left _ hy)))))))
      obtain ⟨f, rfl, hf2⟩ := one_textR Try.underlying9 h5 (fun y hy => hw y (by subst hx; simp only [DataW.weights, Try.underlying23, List.map_cons, List.map_nil, DataW.weightsEach]; exact List.mem_append_right _ (List.mem_append_right _ (List.mem_append_right _ (List.mem_append_right _ (List.mem_append_right _ ((List.mem_append_left _ hy))))))))
      obtain ⟨u, rfl, hu⟩ := one_textR Try.underlying9 h6 (fun y hy => hw y (by subst hx; simp only [DataW.weights, Try.underlying23, List.map_cons, List.map_nil, DataW.weightsEach]; exact List.mem_append_right _ (List.mem_append_right _ (List.mem_append_right _ (List.mem_append_right _ (List.mem_append_right _ (List.mem_append_right _ ((List.mem_append_left _ hy)))))))))
      obtain ⟨m, rfl⟩ := one_int Try.underlying3 h7
      exact ⟨⟨d, c, s, t, v, f, u, m⟩, rfl, ht, hv, hf2, hu⟩
set_option maxRecDepth 100000 in
theorem reps_ofR {H : Type} {enc : TypeId × Value → H} {W : World} {fuel : Nat} {cs : List Value} {x : DataW H × List MemPlace} (hf : DataW.trod enc Try.prog W 0 (fun _ => true) true fuel 30 cs = some x) (hw : ∀ y ∈ x.1.weights Try.prog 30, y ≤ reachBytes) :
    ∃ p X c, cs = [.slice p X.length c] ∧ RowP W p X ∧ (∀ e ∈ X, ArgIn W e) ∧ X.length ≤ 9223372036854775807 ∧ ∀ e ∈ X, RchR e.r := by
  rcases open_slice Try.underlying30 hf with ⟨h, _⟩ | ⟨a, len, cap, m, n, D, Pl, h, hdx, hl, hm, hmm, hdl, hi⟩
  · exact ⟨none, [], 0, h, Or.inl rfl, fun x hx => by simp at hx, by simp, fun x hx => by simp at hx⟩
  · subst h
    simp only [if_true] at hmm
    subst hmm
    unfold maxLen at hm
    have hC : Try.prog.cellsOf 27 = 8 := by kernel_rfl
    have each : ∀ i, i < len → ∃ e : Ent, (ArgIn W e ∧ RchR e.r) ∧ ∀ z, z < 8 → W.cell? ((a.add (i * 8)).add z) = e.list[z + 1]? := fun i hin => by
      obtain ⟨cs', hcs, ht⟩ := hi i (by omega)
      rw [hC] at hcs
      obtain ⟨e, rfl, he⟩ := rep_of2R ht (fun y hy => hw y (by
        rw [hdl]
        simp only [DataW.weights, Try.underlying30]
        exact List.mem_cons_of_mem _ (List.mem_append_left _ (wts_memR _ _ _ (List.mem_map.2 ⟨i, List.mem_range.2 hin, rfl⟩) hy))))
      obtain ⟨_, _, hat⟩ := World.cells?_some hcs
      refine ⟨e, he, fun z hz => ?_⟩
      rw [hat z hz, List.getElem?_tail]
    have pick : ∃ f : Nat → Ent, ∀ i, i < len → (ArgIn W (f i) ∧ RchR (f i).r) ∧ ∀ z, z < 8 → W.cell? ((a.add (i * 8)).add z) = (f i).list[z + 1]? :=
      ⟨fun i => if h : i < len then Classical.choose (each i h) else default, fun i h => by simp only [dif_pos h]; exact Classical.choose_spec (each i h)⟩
    obtain ⟨f, hf2⟩ := pick
    have hget : ∀ j, j < len → ((List.range len).map f).getD j default = f j := fun j hj => by simp [List.getD, hj]
    refine ⟨some a, (List.range len).map f, m, by simp, ?_, fun e he => ?_, by simp; omega, fun e he => by
      obtain ⟨i, hi2, rfl⟩ := List.mem_map.1 he
      exact (hf2 i (by simpa using hi2)).1.2⟩
    · by_cases h0 : len = 0
      · exact Or.inl (by subst h0; rfl)
      · have hc0 := (hf2 0 (by omega)).2 0 (by omega)
        obtain ⟨b, off, spot⟩ := a
        have hc0' : W.cell? ⟨b, off, spot⟩ = some (.int .i64 (f 0).r.c) := by
          have e : ((⟨b, off, spot⟩ : Addr).add (0 * 8)).add 0 = ⟨b, off, spot⟩ := by simp [Addr.add]
          rw [e] at hc0
          rw [hc0]; rfl
        have hsp : spot = none := Go.Proofs.cell_spot hc0'
        subst hsp
        refine Or.inr ⟨b, off, rfl, World.block_lt_of_cell? W _ hc0', fun j hj z hz => ?_⟩
        have hj' : j < len := by simpa using hj
        rw [hget j hj']
        have h3 := (hf2 j hj').2 z hz
        simp only [Addr.add_lit] at h3
        exact h3
    · obtain ⟨i, hi', rfl⟩ := List.mem_map.1 he
      exact (hf2 i (by simpa using hi')).1.1
/-- a shard within the form's reach. -/
def RchD (x : Sd) : Prop := x.sp.f.size ≤ 140737488351232 ∧ x.sp.t.size ≤ 140737488351232
set_option maxRecDepth 100000 in
theorem sd_ofR {H : Type} {enc : TypeId × Value → H} {W : World} {fuel : Nat} {cs : List Value} {x : DataW H × List MemPlace} (h : DataW.trod enc Try.prog W 0 (fun _ => true) true fuel 76 cs = some x) (hw : ∀ y ∈ x.1.weights Try.prog 76, y ≤ reachBytes) : ∃ s : Sd, cs = KS.cf s ∧ RchD s := by
  obtain ⟨ys, n, _, hx, hlen, hyl, hf⟩ := DataW.trod_struct Try.underlying76 h
  have hC : Try.prog.cellsOf 76 = 4 := by kernel_rfl
  have hC2 : Try.prog.cellsOf 29 = 2 := by kernel_rfl
  have c1 : Try.prog.cellsOf 3 = 1 := by kernel_rfl
  have c2 : Try.prog.cellsOf 9 = 1 := by kernel_rfl
  rw [hC] at hlen
  match cs, hlen with
  | [v0, v1, v2, v3], _ =>
    match ys, hyl with
    | [y0, y1, y2], _ =>
      have h0 : DataW.trod enc Try.prog W 0 (fun _ => true) true n 29 [v0, v1] = some y0 := by simpa [c1, c2, hC2] using hf 0 _ rfl
      have h1 : DataW.trod enc Try.prog W 0 (fun _ => true) true n 3 [v2] = some y1 := by simpa [c1, c2, hC2] using hf 1 _ rfl
      have h2 : DataW.trod enc Try.prog W 0 (fun _ => true) true n 3 [v3] = some y2 := by simpa [c1, c2, hC2] using hf 2 _ rfl
      obtain ⟨a, ea, _, _⟩ := DataW.trod_int Try.underlying3 h1
      obtain ⟨b, eb, _, _⟩ := DataW.trod_int Try.underlying3 h2
      simp at ea eb
      subst ea eb
      have hw0 : ∀ y ∈ y0.1.weights Try.prog 29, y ≤ reachBytes := (fun y hy => hw y (by subst hx; simp only [DataW.weights, Try.underlying76, List.map_cons, List.map_nil, DataW.weightsEach]; exact (List.mem_append_left _ hy)))
      obtain ⟨zs, n2, _, hx0, _, hzl, hg⟩ := DataW.trod_struct Try.underlying29 h0
      match zs, hzl with
      | [z0, z1], _ =>
        have g0 : DataW.trod enc Try.prog W 0 (fun _ => true) true n2 9 [v0] = some z0 := by simpa [c2] using hg 0 _ rfl
        have g1 : DataW.trod enc Try.prog W 0 (fun _ => true) true n2 9 [v1] = some z1 := by simpa [c2] using hg 1 _ rfl
        obtain ⟨s, rfl, hs⟩ := one_textR Try.underlying9 g0 (fun y hy => hw0 y (by rw [hx0]; simp only [DataW.weights, Try.underlying29, List.map_cons, List.map_nil, DataW.weightsEach]; exact (List.mem_append_left _ hy)))
        obtain ⟨t, rfl, ht⟩ := one_textR Try.underlying9 g1 (fun y hy => hw0 y (by rw [hx0]; simp only [DataW.weights, Try.underlying29, List.map_cons, List.map_nil, DataW.weightsEach]; exact List.mem_append_right _ ((List.mem_append_left _ hy))))
        exact ⟨⟨⟨strB s, strB t⟩, a, b⟩, rfl, by rw [strB_size]; exact hs, by rw [strB_size]; exact ht⟩
set_option maxRecDepth 100000 in
theorem at_ofR {H : Type} {enc : TypeId × Value → H} {W : World} {fuel : Nat} {cl : List Value} {x : DataW H × List MemPlace} (h : DataW.trod enc Try.prog W 0 (fun _ => true) true fuel 33 cl = some x) (hw : ∀ y ∈ x.1.weights Try.prog 33, y ≤ reachBytes) :
    ∃ ep p L c, cl = [.int .i64 ep, .slice p L.length c] ∧ RowK KS W p L ∧ L.length ≤ 9223372036854775807 ∧ (p = none → c = 0) ∧ (Lit.int .i64 ep).wf = true ∧ ∀ x ∈ L, RchD x := by
  obtain ⟨ys, n, _, hx, hlen, hyl, hf⟩ := DataW.trod_struct Try.underlying33 h
  have hC : Try.prog.cellsOf 33 = 2 := by kernel_rfl
  have c1 : Try.prog.cellsOf 3 = 1 := by kernel_rfl
  have c2 : Try.prog.cellsOf 31 = 1 := by kernel_rfl
  rw [hC] at hlen
  match cl, hlen with
  | [v0, v1], _ =>
    match ys, hyl with
    | [y0, y1], _ =>
      have h0 : DataW.trod enc Try.prog W 0 (fun _ => true) true n 3 [v0] = some y0 := by simpa [c1] using hf 0 _ rfl
      have h1 : DataW.trod enc Try.prog W 0 (fun _ => true) true n 31 [v1] = some y1 := by simpa [c1, c2] using hf 1 _ rfl
      obtain ⟨a, ea, _, wa⟩ := DataW.trod_int Try.underlying3 h0
      simp at ea
      subst ea
      obtain ⟨p, L, c, hv, hr, hl, hp, hpr⟩ := rowk_ofR KS RchD Try.underlying31 (by kernel_rfl) (fun _ _ _ h hw => sd_ofR h hw) h1 (fun y hy => hw y (by subst hx; simp only [DataW.weights, Try.underlying33, List.map_cons, List.map_nil, DataW.weightsEach]; exact List.mem_append_right _ ((List.mem_append_left _ hy))))
      injection hv with hv _
      subst hv
      exact ⟨a, p, L, c, rfl, hr, hl, hp, wa, hpr⟩
/-- a note within the form's reach. -/
structure NtRch (n : NtL) : Prop where
  ask : RchA n.ask
  rep : RchR n.rep
  ls : RchL n.ls
  la : ∀ e ∈ n.la, RchR e.r
  sf : n.sf.length ≤ 140737488351232
  st : n.st.length ≤ 140737488351232
  sh : ∀ x ∈ n.sh, RchD x
set_option maxRecDepth 100000 in
theorem arg_rowR {H : Type} {enc : TypeId × Value → H} {W : World} {b0 : Nat} {v : Value} {d : DataW H} {ps : List MemPlace} (hval : Value.okWide Try.prog W .any b0 35 v) (hd : DataW.Trod enc Try.prog W 0 (fun _ => true) true 35 v d ps) (hw0 : (d.weights Try.prog 35).all (· ≤ reachBytes) = true) :
    ∃ (n : NtL) (P : NtP), v = ntV n P ∧ NtAg W n P ∧ NtRch n := by
  obtain ⟨cs, rfl, hsz⟩ := okWide_struct Try.underlying35 hval
  obtain ⟨fuel, h⟩ := hd
  have hw : ∀ y ∈ d.weights Try.prog 35, y ≤ reachBytes := fun y hy => of_decide_eq_true (List.all_eq_true.1 hw0 y hy)
  obtain ⟨ys, n, _, hx, hlen, hyl, hf⟩ := DataW.trod_struct Try.underlying35 h
  have hC : Try.prog.cellsOf 35 = 27 := by kernel_rfl
  have k0 : Try.prog.cellsOf 3 = 1 := by kernel_rfl
  have k1 : Try.prog.cellsOf 23 = 8 := by kernel_rfl
  have k2 : Try.prog.cellsOf 27 = 8 := by kernel_rfl
  have k3 : Try.prog.cellsOf 29 = 2 := by kernel_rfl
  have k4 : Try.prog.cellsOf 25 = 1 := by kernel_rfl
  have k5 : Try.prog.cellsOf 30 = 1 := by kernel_rfl
  have k6 : Try.prog.cellsOf 33 = 2 := by kernel_rfl
  have k7 : Try.prog.cellsOf 9 = 1 := by kernel_rfl
  rw [hC] at hlen
  obtain ⟨cl⟩ := cs
  have hcl : (Value.agg ⟨cl⟩).cells.toList = cl := rfl
  rw [hcl] at hlen hf
  match cl, hlen with
  | [v0, v1, v2, v3, v4, v5, v6, v7, v8, v9, v10, v11, v12, v13, v14, v15, v16, v17, v18, v19, v20, v21, v22, v23, v24, v25, v26], _ =>
    match ys, hyl with
    | [y0, y1, y2, y3, y4, y5, y6, y7, y8, y9, y10], _ =>
      have h0 : DataW.trod enc Try.prog W 0 (fun _ => true) true n 3 [v0] = some y0 := by simpa [k0, k1, k2, k3, k4, k5, k6] using hf 0 _ rfl
      have h1 : DataW.trod enc Try.prog W 0 (fun _ => true) true n 3 [v1] = some y1 := by simpa [k0, k1, k2, k3, k4, k5, k6] using hf 1 _ rfl
      have h2 : DataW.trod enc Try.prog W 0 (fun _ => true) true n 3 [v2] = some y2 := by simpa [k0, k1, k2, k3, k4, k5, k6] using hf 2 _ rfl
      have h3 : DataW.trod enc Try.prog W 0 (fun _ => true) true n 3 [v3] = some y3 := by simpa [k0, k1, k2, k3, k4, k5, k6] using hf 3 _ rfl
      have h4 : DataW.trod enc Try.prog W 0 (fun _ => true) true n 3 [v4] = some y4 := by simpa [k0, k1, k2, k3, k4, k5, k6] using hf 4 _ rfl
      have h5 : DataW.trod enc Try.prog W 0 (fun _ => true) true n 23 [v5, v6, v7, v8, v9, v10, v11, v12] = some y5 := by simpa [k0, k1, k2, k3, k4, k5, k6] using hf 5 _ rfl
      have h6 : DataW.trod enc Try.prog W 0 (fun _ => true) true n 27 [v13, v14, v15, v16, v17, v18, v19, v20] = some y6 := by simpa [k0, k1, k2, k3, k4, k5, k6] using hf 6 _ rfl
      have h7 : DataW.trod enc Try.prog W 0 (fun _ => true) true n 29 [v21, v22] = some y7 := by simpa [k0, k1, k2, k3, k4, k5, k6] using hf 7 _ rfl
      have h8 : DataW.trod enc Try.prog W 0 (fun _ => true) true n 25 [v23] = some y8 := by simpa [k0, k1, k2, k3, k4, k5, k6] using hf 8 _ rfl
      have h9 : DataW.trod enc Try.prog W 0 (fun _ => true) true n 30 [v24] = some y9 := by simpa [k0, k1, k2, k3, k4, k5, k6] using hf 9 _ rfl
      have h10 : DataW.trod enc Try.prog W 0 (fun _ => true) true n 33 [v25, v26] = some y10 := by simpa [k0, k1, k2, k3, k4, k5, k6] using hf 10 _ rfl
      obtain ⟨kd, rfl⟩ := one_int Try.underlying3 h0
      obtain ⟨fr, rfl⟩ := one_int Try.underlying3 h1
      obtain ⟨to_, rfl⟩ := one_int Try.underlying3 h2
      obtain ⟨ep, rfl⟩ := one_int Try.underlying3 h3
      obtain ⟨tk, rfl⟩ := one_int Try.underlying3 h4
      obtain ⟨ask, ea, rea⟩ := ask_ofR h5 (fun y hy => hw y (by injection hx with hx _; subst hx; simp only [DataW.weights, Try.underlying35, List.map_cons, List.map_nil, DataW.weightsEach]; exact List.mem_append_right _ (List.mem_append_right _ (List.mem_append_right _ (List.mem_append_right _ (List.mem_append_right _ ((List.mem_append_left _ hy))))))))
      obtain ⟨rep, rp, rk, er, hr1, hr2, hr3⟩ := rep_ofR h6 (fun y hy => hw y (by injection hx with hx _; subst hx; simp only [DataW.weights, Try.underlying35, List.map_cons, List.map_nil, DataW.weightsEach]; exact List.mem_append_right _ (List.mem_append_right _ (List.mem_append_right _ (List.mem_append_right _ (List.mem_append_right _ (List.mem_append_right _ ((List.mem_append_left _ hy)))))))))
      have hw7 : ∀ y ∈ y7.1.weights Try.prog 29, y ≤ reachBytes := (fun y hy => hw y (by injection hx with hx _; subst hx; simp only [DataW.weights, Try.underlying35, List.map_cons, List.map_nil, DataW.weightsEach]; exact List.mem_append_right _ (List.mem_append_right _ (List.mem_append_right _ (List.mem_append_right _ (List.mem_append_right _ (List.mem_append_right _ (List.mem_append_right _ ((List.mem_append_left _ hy))))))))))
      obtain ⟨zs, n2, _, hx7, _, hzl, hg⟩ := DataW.trod_struct Try.underlying29 h7
      match zs, hzl with
      | [z0, z1], _ =>
        have g0 : DataW.trod enc Try.prog W 0 (fun _ => true) true n2 9 [v21] = some z0 := by simpa [k7] using hg 0 _ rfl
        have g1 : DataW.trod enc Try.prog W 0 (fun _ => true) true n2 9 [v22] = some z1 := by simpa [k7] using hg 1 _ rfl
        obtain ⟨sf, rfl, hsf⟩ := one_textR Try.underlying9 g0 (fun y hy => hw7 y (by rw [hx7]; simp only [DataW.weights, Try.underlying29, List.map_cons, List.map_nil, DataW.weightsEach]; exact (List.mem_append_left _ hy)))
        obtain ⟨st, rfl, hst⟩ := one_textR Try.underlying9 g1 (fun y hy => hw7 y (by rw [hx7]; simp only [DataW.weights, Try.underlying29, List.map_cons, List.map_nil, DataW.weightsEach]; exact List.mem_append_right _ ((List.mem_append_left _ hy))))
        obtain ⟨lp, ls, lk, el, hl1, hl2, hl3⟩ := recs_ofR h8 (fun y hy => hw y (by injection hx with hx _; subst hx; simp only [DataW.weights, Try.underlying35, List.map_cons, List.map_nil, DataW.weightsEach]; exact List.mem_append_right _ (List.mem_append_right _ (List.mem_append_right _ (List.mem_append_right _ (List.mem_append_right _ (List.mem_append_right _ (List.mem_append_right _ (List.mem_append_right _ ((List.mem_append_left _ hy)))))))))))
        obtain ⟨ap, la, ak, ela, ha1, ha2, ha3, ha4⟩ := reps_ofR h9 (fun y hy => hw y (by injection hx with hx _; subst hx; simp only [DataW.weights, Try.underlying35, List.map_cons, List.map_nil, DataW.weightsEach]; exact List.mem_append_right _ (List.mem_append_right _ (List.mem_append_right _ (List.mem_append_right _ (List.mem_append_right _ (List.mem_append_right _ (List.mem_append_right _ (List.mem_append_right _ (List.mem_append_right _ ((List.mem_append_left _ hy))))))))))))
        obtain ⟨ae, hp, sh, hk, eh, hh1, hh2, _, _, hh5⟩ := at_ofR h10 (fun y hy => hw y (by injection hx with hx _; subst hx; simp only [DataW.weights, Try.underlying35, List.map_cons, List.map_nil, DataW.weightsEach]; exact List.mem_append_right _ (List.mem_append_right _ (List.mem_append_right _ (List.mem_append_right _ (List.mem_append_right _ (List.mem_append_right _ (List.mem_append_right _ (List.mem_append_right _ (List.mem_append_right _ (List.mem_append_right _ ((List.mem_append_left _ hy)))))))))))))
        simp only [List.cons.injEq, and_true] at ea er el ela eh
        obtain ⟨rfl, rfl, rfl, rfl, rfl, rfl, rfl, rfl⟩ := ea
        obtain ⟨rfl, rfl, rfl, rfl, rfl, rfl, rfl, rfl⟩ := er
        obtain rfl := el
        obtain rfl := ela
        obtain ⟨rfl, rfl⟩ := eh
        exact ⟨⟨kd, fr, to_, ep, tk, ask, rep, sf, st, ls, la, ae, sh⟩, ⟨rp, rk, lp, lk, ap, ak, hp, hk⟩, rfl, ⟨hr1, hl1, ha1, ha2, hh1, hr2, hl2, ha3, hh2⟩, rea, hr3, hl3, ha4, hsf, hst, hh5⟩
end Go.Proofs.Ytfadpiipigkocaa
