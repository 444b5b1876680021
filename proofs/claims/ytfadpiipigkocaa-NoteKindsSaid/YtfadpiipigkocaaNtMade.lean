/-
  Layer note, the law's: Made.
-/
import Derived.Test.YtfadpiipigkocaaMg15
import Derived.Test.YtfadpiipigkocaaMg18
import Derived.Test.YtfadpiipigkocaaMg16
import Derived.Test.YtfadpiipigkocaaMg19
import Derived.Test.YtfadpiipigkocaaMg17
import Derived.Test.YtfadpiipigkocaaNtTake
namespace Go.Proofs.Ytfadpiipigkocaa
open Go.RowKit Go.Gz

/-- the loop of Made: what stands in the new note's block. -/
structure MkI (w0 : World) (o : Nat) (c1 : Array Value) (X : List Ent) (k : Nat) (wr : World) : Prop where
  kept : KeptF (fun j => j = o) w0 wr
  row : ∃ v, wr.heap[o]? = some (.cells (c1.setIfInBounds 24 v) 43 (0, 0)) ∧ OwnK KE wr w0.heap.size 84 v (X.take k)
/-- a note as the program has it. -/
def RetMk (w : World) (n : NtL) (P : NtP) (e : Ending) (w' : World) : Prop := ∃ P', e = .returned (ntV n P') ∧ Below w.heap.size w w' ∧ NtIn w' n P' ∧ (P'.rp = P.rp ∧ P'.lp = P.lp) ∧ TyP w' P'.ap 84 ∧ TyP w' P'.hp 70
theorem own_typ {α : Type} {K : SK α} {w : World} {B : Nat} {t : TypeId} {p : Option Addr} {n c : Nat} {L : List α} (h : OwnK K w B t (.slice p n c) L) : TyP w p t := fun a ha => h.type a.block (by rw [ha]; rfl)
/-- a row of one entry that is built. -/
def vpB (E : Ent) : VP := ⟨fun v w => ∃ b, v = .slice (some ⟨b, 0, none⟩) 1 1 ∧ RowK KE w (some ⟨b, 0, none⟩) [E], fun _ _ _ ⟨b, h1, h2⟩ hb => ⟨b, h1, h2.below hb⟩⟩
/-- a row of one entry that was answered. -/
def vpC (E : Ent) : VP := ⟨fun v w => ∃ q c, v = .slice q 1 c ∧ (q = none → c = 0) ∧ RowK KE w q [E], fun _ _ _ ⟨q, c, h1, h2, h3⟩ hb => ⟨q, c, h1, h2, h3.below hb⟩⟩
theorem set_24 (c : Array Value) (h : 24 < c.size) (v : Value) : (c.setIfInBounds 24 v)[24]? = some v := by
  rw [Array.getElem?_setIfInBounds_self]
  exact if_pos h

set_option maxHeartbeats 16000000 in
set_option maxRecDepth 100000 in
theorem noteMade_any (n : NtL) (P : NtP) (w : World) (hin : NtAg w n P) (hal : n.la.length ≤ 1000) (hsl : n.sh.length ≤ 1000000) : Calls Try.prog 7 #[ntV n P] w (RetMk w n P) := by
  have HIN := Lib.hid hin
  obtain ⟨c, hc⟩ : ∃ c, (ntList n P).toArray = c := ⟨_, rfl⟩
  unfold ntV
  rw [hc]
  have A0 := Lib.hid (show c[0]? = some (.int .i64 n.kd) by rw [← hc]; rfl)
  have A1 := Lib.hid (show c[1]? = some (.int .i64 n.fr) by rw [← hc]; rfl)
  have A2 := Lib.hid (show c[2]? = some (.int .i64 n.to_) by rw [← hc]; rfl)
  have A3 := Lib.hid (show c[3]? = some (.int .i64 n.ep) by rw [← hc]; rfl)
  have A4 := Lib.hid (show c[4]? = some (.int .i64 n.tk) by rw [← hc]; rfl)
  have A5 := Lib.hid (show c[5]? = some (.int .i64 n.ask.d) by rw [← hc]; rfl)
  have A6 := Lib.hid (show c[6]? = some (.int .i64 n.ask.c) by rw [← hc]; rfl)
  have A7 := Lib.hid (show c[7]? = some (.int .i64 n.ask.s) by rw [← hc]; rfl)
  have A8 := Lib.hid (show c[8]? = some (.string (strB n.ask.t)) by rw [← hc]; rfl)
  have A9 := Lib.hid (show c[9]? = some (.string (strB n.ask.v)) by rw [← hc]; rfl)
  have A10 := Lib.hid (show c[10]? = some (.string (strB n.ask.f)) by rw [← hc]; rfl)
  have A11 := Lib.hid (show c[11]? = some (.string (strB n.ask.u)) by rw [← hc]; rfl)
  have A12 := Lib.hid (show c[12]? = some (.int .i64 n.ask.m) by rw [← hc]; rfl)
  have A13 := Lib.hid (show c[13]? = some (.int .i64 n.rep.c) by rw [← hc]; rfl)
  have A14 := Lib.hid (show c[14]? = some (.int .i64 n.rep.s) by rw [← hc]; rfl)
  have A15 := Lib.hid (show c[15]? = some (.int .i64 n.rep.e) by rw [← hc]; rfl)
  have A16 := Lib.hid (show c[16]? = some (.bool n.rep.fd) by rw [← hc]; rfl)
  have A17 := Lib.hid (show c[17]? = some (.string (strB n.rep.v)) by rw [← hc]; rfl)
  have A18 := Lib.hid (show c[18]? = some (.slice P.rp n.rep.ls.length P.rk) by rw [← hc]; rfl)
  have A19 := Lib.hid (show c[19]? = some (.string (strB n.rep.nx)) by rw [← hc]; rfl)
  have A20 := Lib.hid (show c[20]? = some (.bool n.rep.mr) by rw [← hc]; rfl)
  have A21 := Lib.hid (show c[21]? = some (.string (strB n.sf)) by rw [← hc]; rfl)
  have A22 := Lib.hid (show c[22]? = some (.string (strB n.st)) by rw [← hc]; rfl)
  have A23 := Lib.hid (show c[23]? = some (.slice P.lp n.ls.length P.lk) by rw [← hc]; rfl)
  have A24 := Lib.hid (show c[24]? = some (.slice P.ap n.la.length P.ak) by rw [← hc]; rfl)
  have A25 := Lib.hid (show c[25]? = some (.int .i64 n.ae) by rw [← hc]; rfl)
  have A26 := Lib.hid (show c[26]? = some (.slice P.hp n.sh.length P.hk) by rw [← hc]; rfl)
  have hcs : c.size = 27 := by rw [← hc]; rfl
  obtain ⟨W1, hW1⟩ : ∃ W1, w.alloc (.cells c 35) = W1 := ⟨_, rfl⟩
  obtain ⟨W2, hW2⟩ : ∃ W2, W1.alloc (.cells noteZ 43) = W2 := ⟨_, rfl⟩
  obtain ⟨c1, hc1⟩ : ∃ c1 : Array Value, #[.int .i64 n.kd, .int .i64 n.fr, .int .i64 n.to_, .int .i64 n.ep, .int .i64 n.tk, .int .i64 n.ask.d, .int .i64 n.ask.c, .int .i64 n.ask.s, .string (strB n.ask.t), .string (strB n.ask.v), .string (strB n.ask.f), .string (strB n.ask.u), .int .i64 n.ask.m, .int .i64 n.rep.c, .int .i64 n.rep.s, .int .i64 n.rep.e, .bool n.rep.fd, .string (strB n.rep.v), .slice P.rp n.rep.ls.length P.rk, .string (strB n.rep.nx), .bool n.rep.mr, .string (strB n.sf), .string (strB n.st), .slice P.lp n.ls.length P.lk, .slice none 0 0, .int .i64 0, .slice none 0 0] = c1 := ⟨_, rfl⟩
  obtain ⟨W3, hW3⟩ : ∃ W3, W2.alloc (.cells c1 43) = W3 := ⟨_, rfl⟩
  have hz1 : W1.heap.size = w.heap.size + 1 := by rw [← hW1]; simp
  have hz2 : W2.heap.size = w.heap.size + 2 := by rw [← hW2]; simp; omega
  have hz3 : W3.heap.size = w.heap.size + 3 := by rw [← hW3]; simp; omega
  have hb1 : Below w.heap.size w W1 := hW1 ▸ (Below.refl _ _).alloc (Nat.le_refl _) _
  have hb2 : Below W1.heap.size W1 W2 := hW2 ▸ (Below.refl _ _).alloc (Nat.le_refl _) _
  have hb3 : Below W2.heap.size W2 W3 := hW3 ▸ (Below.refl _ _).alloc (Nat.le_refl _) _
  have hb13 : Below W1.heap.size W1 W3 := hb2.trans (hb3.mono hb2.size)
  have HBW := Lib.hid (hb1.trans (hb13.mono hb1.size))
  have HB13 := Lib.hid hb13
  have hc1s : c1.size = 27 := by rw [← hc1]; rfl
  have HC1 := Lib.hid hc1
  have HC1S := Lib.hid hc1s
  have HIW := Lib.hid (show (Try.prog.info? 43).map (·.size) = some c1.size by rw [hc1s]; exact info_note)
  have HONE := Lib.hid (show c1.all (·.oneCell') = true by rw [← hc1]; exact nt_one { n with la := [], ae := 0, sh := [] } { P with ap := none, ak := 0, hp := none, hk := 0 })
  have HST := Lib.hid (note_store W2 c1 (w.heap.size + 2) hz2 hc1s)
  have HC := Lib.hid (show ∀ wr, Below W1.heap.size W1 wr → ∀ i, wr.cell? ⟨w.heap.size, i, none⟩ = c[i]? from fun wr hb i => nt_box hW1 hb i)
  have HBL := Lib.hid (show W3.heap[w.heap.size + 2]? = some (.cells c1 43 (0, 0)) by rw [← hz2, ← hW3]; exact new_block _ _ _)
  have HRB := Lib.hid (show W3.heap[w.heap.size + 1]? = some (.cells noteZ 43 (0, 0)) by
    rw [hb3.block _ (by omega), ← hz1, ← hW2]; exact new_block _ _ _)
  have HZ3 := Lib.hid hz3
  have HW1 := Lib.hid hW1
  have HW2 := Lib.hid hW2
  have HW3 := Lib.hid hW3
  have HZ1 := Lib.hid hz1
  have HZ2 := Lib.hid hz2
  have HST0 := Lib.hid (show MkI W3 (w.heap.size + 2) c1 n.la 0 W3 from ⟨KeptF.refl _ _, .slice none 0 0, by
    have h : c1.setIfInBounds 24 (.slice none 0 0) = c1 := by rw [← HC1.out]; rfl
    rw [h]; exact HBL.out, OwnK.nil KE _ _ _⟩)
  have CAT := Lib.hid (fun w1 (h : Below w.heap.size w w1) => atmade_any w1 n.ae n.sh P.hp P.hk (HIN.out.sh.below h) hsl)
  obtain ⟨N, hN⟩ : ∃ N, n.la.length = N := ⟨_, rfl⟩
  have HN := Lib.hid hN
  rw [hN] at A24 hal
  have hNz : (N : Int) ≤ 1000 := by omega
  clear hc hcs hW1 hW2 hW3 hz1 hz2 hz3 hb1 hb2 hb3 hb13 hc1 hc1s hN hin hsl
  go_enter Try.func7, Try.ntmps7
  go_upto_region 1 with fail
  rw [HW1.out, HW2.out]
  have f0 := (HC.out W2 (HW2.out ▸ (Below.refl _ _).alloc (Nat.le_refl _) _) 0).trans A0.out
  have f1 := (HC.out W2 (HW2.out ▸ (Below.refl _ _).alloc (Nat.le_refl _) _) 1).trans A1.out
  have f2 := (HC.out W2 (HW2.out ▸ (Below.refl _ _).alloc (Nat.le_refl _) _) 2).trans A2.out
  have f3 := (HC.out W2 (HW2.out ▸ (Below.refl _ _).alloc (Nat.le_refl _) _) 3).trans A3.out
  have f4 := (HC.out W2 (HW2.out ▸ (Below.refl _ _).alloc (Nat.le_refl _) _) 4).trans A4.out
  have f5 := (HC.out W2 (HW2.out ▸ (Below.refl _ _).alloc (Nat.le_refl _) _) 5).trans A5.out
  have f6 := (HC.out W2 (HW2.out ▸ (Below.refl _ _).alloc (Nat.le_refl _) _) 6).trans A6.out
  have f7 := (HC.out W2 (HW2.out ▸ (Below.refl _ _).alloc (Nat.le_refl _) _) 7).trans A7.out
  have f8 := (HC.out W2 (HW2.out ▸ (Below.refl _ _).alloc (Nat.le_refl _) _) 8).trans A8.out
  have f9 := (HC.out W2 (HW2.out ▸ (Below.refl _ _).alloc (Nat.le_refl _) _) 9).trans A9.out
  have f10 := (HC.out W2 (HW2.out ▸ (Below.refl _ _).alloc (Nat.le_refl _) _) 10).trans A10.out
  have f11 := (HC.out W2 (HW2.out ▸ (Below.refl _ _).alloc (Nat.le_refl _) _) 11).trans A11.out
  have f12 := (HC.out W2 (HW2.out ▸ (Below.refl _ _).alloc (Nat.le_refl _) _) 12).trans A12.out
  have f13 := (HC.out W2 (HW2.out ▸ (Below.refl _ _).alloc (Nat.le_refl _) _) 13).trans A13.out
  have f14 := (HC.out W2 (HW2.out ▸ (Below.refl _ _).alloc (Nat.le_refl _) _) 14).trans A14.out
  have f15 := (HC.out W2 (HW2.out ▸ (Below.refl _ _).alloc (Nat.le_refl _) _) 15).trans A15.out
  have f16 := (HC.out W2 (HW2.out ▸ (Below.refl _ _).alloc (Nat.le_refl _) _) 16).trans A16.out
  have f17 := (HC.out W2 (HW2.out ▸ (Below.refl _ _).alloc (Nat.le_refl _) _) 17).trans A17.out
  have f18 := (HC.out W2 (HW2.out ▸ (Below.refl _ _).alloc (Nat.le_refl _) _) 18).trans A18.out
  have f19 := (HC.out W2 (HW2.out ▸ (Below.refl _ _).alloc (Nat.le_refl _) _) 19).trans A19.out
  have f20 := (HC.out W2 (HW2.out ▸ (Below.refl _ _).alloc (Nat.le_refl _) _) 20).trans A20.out
  have f21 := (HC.out W2 (HW2.out ▸ (Below.refl _ _).alloc (Nat.le_refl _) _) 21).trans A21.out
  have f22 := (HC.out W2 (HW2.out ▸ (Below.refl _ _).alloc (Nat.le_refl _) _) 22).trans A22.out
  have f23 := (HC.out W2 (HW2.out ▸ (Below.refl _ _).alloc (Nat.le_refl _) _) 23).trans A23.out
  have hs2 : W2.heap.size = w.heap.size + 2 := HZ2.out
  go_upto_region 2 with ((with_reducible show wpList _ _ _ (⟨none, Op.store _ _ _, _, _, _, _⟩ :: _) _ _); rw [HC1.out]; refine wpList_store_row rfl 43 (.tmp 3) (.tmp 23) rfl (w.heap.size + 2) c1 rfl rfl 43 noteZ HST.out.1 HIW.out HST.out.2.1 HONE.out ?_)
  rw [HST.out.2.2, HW3.out]
  clear f0 f1 f2 f3 f4 f5 f6 f7 f8 f9 f10 f11 f12 f13 f14 f15 f16 f17 f18 f19 f20 f21 f22 f23 hs2
  go_wp2_with fail
  go_loopw [4] (fun i wr => ∃ k : Nat, i = .int .i64 k ∧ k ≤ N ∧ Hid (MkI W3 (w.heap.size + 2) c1 n.la k wr)) (fun i _ => N - (RowKit.intOf i).toNat)
  case atStart => exact ⟨0, rfl, Nat.zero_le _, HST0⟩
  case round =>
    obtain ⟨k, rfl, hkn, HI⟩ := hrel
    have x24 := (HI.out.kept.cell (p := ⟨w.heap.size, 24, none⟩) (by have := HZ3.out; show w.heap.size < _; omega) (by show ¬ w.heap.size = _; omega)).trans ((HC.out W3 HB13.out 24).trans A24.out)
    rcases Nat.lt_or_ge k N with hk | hk
    · have hkz : (k : Int) < (N : Int) := by omega
      have hklt : k < n.la.length := by rw [HN.out]; exact hk
      obtain ⟨E, hE⟩ : ∃ E, n.la.getD k default = E := ⟨_, rfl⟩
      obtain ⟨pb, po, hpe, hpb, hce⟩ := rep_cells (HIN.out.la.below HBW.out) (Below.refl _ W3) hklt
      have hpw : pb < w.heap.size := by
        rcases HIN.out.la with h | ⟨b, off, h1, h2, _⟩
        · rw [h] at hklt; simp at hklt
        · rw [hpe] at h1; injection h1 with h1; injection h1 with h1 _ _; rw [h1]; exact h2
      rw [hE] at hce
      have HES := Lib.hid (show E.s = E.r.s from (HIN.out.les E (by rw [← hE]; simp [List.getD, hklt])).s)
      have HTK := Lib.hid (show n.la.take (k + 1) = n.la.take k ++ [E] by
        rw [List.take_succ_eq_append_getElem hklt, ← hE]
        simp [List.getD, hklt])
      have HLK := Lib.hid (show (n.la.take k).length = k by rw [List.length_take]; omega)
      have CM12 := Lib.hid (fun w1 b (h : RowK KE w1 (some ⟨b, 0, none⟩) [E]) => made_any w1 [E] (some ⟨b, 0, none⟩) 1 (rowE_iff.1 h) (by simp))
      have HZC := Lib.hid (show ∀ i, i < 8 → W3.cell? ⟨pb, po + k * 8 + i, none⟩ = E.list[i + 1]? from hce)
      obtain ⟨v, hv, hown⟩ := HI.out.row
      have HOW := Lib.hid hown
      have HV := Lib.hid hv
      have HKP := Lib.hid HI.out.kept
      have o24 : wr.cell? ⟨w.heap.size + 2, 24, none⟩ = some v := by
        simp only [World.cell?, hv]
        exact set_24 c1 (by rw [HC1S.out]; decide) v
      rw [hpe] at x24
      have HPE := Lib.hid hpe
      have HPW := Lib.hid hpw
      have HHE := Lib.hid hE
      clear hce hv hown HI hpb hpw hpe hE
      go_upto_region 5 with fail
      obtain ⟨q, cq, rfl, -, -, -, hqp⟩ := HOW.out.row
      have HNO := Lib.hid (show ∀ g, (Value.slice q (n.la.take k).length cq).ownBlock = some g → W3.heap.size ≤ g from fun g hg => (HOW.out.ltB g hg).1)
      obtain ⟨es, er, ep, ek⟩ := E
      obtain rfl : es = er.s := HES.out
      obtain ⟨yc, yrs, ye, yf, yv, yls, yn, ym⟩ := er
      have z0 := (HKP.out.cell (p := ⟨pb, po + k * 8 + 0, none⟩) (by have := HZ3.out; have := HPW.out; show pb < _; omega) (by have := HPW.out; show ¬ pb = _; omega)).trans (HZC.out 0 (by decide))
      have z1 := (HKP.out.cell (p := ⟨pb, po + k * 8 + 1, none⟩) (by have := HZ3.out; have := HPW.out; show pb < _; omega) (by have := HPW.out; show ¬ pb = _; omega)).trans (HZC.out 1 (by decide))
      have z2 := (HKP.out.cell (p := ⟨pb, po + k * 8 + 2, none⟩) (by have := HZ3.out; have := HPW.out; show pb < _; omega) (by have := HPW.out; show ¬ pb = _; omega)).trans (HZC.out 2 (by decide))
      have z3 := (HKP.out.cell (p := ⟨pb, po + k * 8 + 3, none⟩) (by have := HZ3.out; have := HPW.out; show pb < _; omega) (by have := HPW.out; show ¬ pb = _; omega)).trans (HZC.out 3 (by decide))
      have z4 := (HKP.out.cell (p := ⟨pb, po + k * 8 + 4, none⟩) (by have := HZ3.out; have := HPW.out; show pb < _; omega) (by have := HPW.out; show ¬ pb = _; omega)).trans (HZC.out 4 (by decide))
      have z5 := (HKP.out.cell (p := ⟨pb, po + k * 8 + 5, none⟩) (by have := HZ3.out; have := HPW.out; show pb < _; omega) (by have := HPW.out; show ¬ pb = _; omega)).trans (HZC.out 5 (by decide))
      have z6 := (HKP.out.cell (p := ⟨pb, po + k * 8 + 6, none⟩) (by have := HZ3.out; have := HPW.out; show pb < _; omega) (by have := HPW.out; show ¬ pb = _; omega)).trans (HZC.out 6 (by decide))
      have z7 := (HKP.out.cell (p := ⟨pb, po + k * 8 + 7, none⟩) (by have := HZ3.out; have := HPW.out; show pb < _; omega) (by have := HPW.out; show ¬ pb = _; omega)).trans (HZC.out 7 (by decide))
      simp only [Ent.list, Nat.add_zero] at z0 z1 z2 z3 z4 z5 z6 z7
      simp only at CM12 HTK
      have HZ8 := Lib.hid (And.intro z0 (And.intro z1 (And.intro z2 (And.intro z3 (And.intro z4 (And.intro z5 (And.intro z6 z7)))))))
      have HX24 := Lib.hid x24
      have HO24 := Lib.hid o24
      have HKN := Lib.hid hkz
      have HWS := Lib.hid HKP.out.size
      have HF1 := Lib.hid (show w.heap.size < wr.heap.size ∧ ¬ (w.heap.size = w.heap.size + 2 ∨ (Value.slice q (n.la.take k).length cq).ownBlock = some w.heap.size) from ⟨by have := HZ3.out; have := HWS.out; omega, fun h => by
        rcases h with h | h
        · omega
        · have := HNO.out _ h; have := HZ3.out; omega⟩)
      have HF2 := Lib.hid (show pb < wr.heap.size ∧ ¬ (pb = w.heap.size + 2 ∨ (Value.slice q (n.la.take k).length cq).ownBlock = some pb) from ⟨by have := HZ3.out; have := HWS.out; have := HPW.out; omega, fun h => by
        have := HPW.out
        rcases h with h | h
        · omega
        · have := HNO.out _ h; have := HZ3.out; omega⟩)
      clear x24 o24 hqp z0 z1 z2 z3 z4 z5 z6 z7
      refine wp_region_capp mixedAt (by kernel_rfl) (K := KE) (t := 84) (B := W3.heap.size) (v0 := (.slice q (n.la.take k).length cq)) (X := (n.la.take k)) (M := [(⟨yrs, ⟨yc, yrs, ye, yf, yv, yls, yn, ym⟩, ep, ek⟩ : Ent)])
        [some (.pointer (some ⟨w.heap.size + 2, 24, none⟩)), some (.slice q (n.la.take k).length cq), some (.pointer (some ⟨w.heap.size, 24, none⟩)), some (.slice (some ⟨pb, po, none⟩) N P.ak), some (.int .i64 k), some (.pointer (some ⟨pb, po + k * 8, none⟩)), some (.pointer (some ⟨pb, po + k * 8 + 1, none⟩)), some (.int .i64 yrs), some (.pointer (some ⟨w.heap.size, 24, none⟩)), some (.slice (some ⟨pb, po, none⟩) N P.ak), some (.int .i64 k), some (.pointer (some ⟨pb, po + k * 8, none⟩)), some (.agg #[.int .i64 yc, .int .i64 yrs, .int .i64 ye, .bool yf, .string (strB yv), .slice ep yls.length ek, .string (strB yn), .bool ym]), some (.agg #[.int .i64 yrs, .int .i64 yc, .int .i64 yrs, .int .i64 ye, .bool yf, .string (strB yv), .slice ep yls.length ek, .string (strB yn), .bool ym]), none, none, none, some (.pointer (some ⟨w.heap.size + 2, 24, none⟩)), none]
        [VP.any, VP.any, VP.any, VP.any, VP.any, VP.any, VP.any, VP.any, VP.any, VP.any, VP.any, VP.any, VP.any, VP.any, vpB (⟨yrs, ⟨yc, yrs, ye, yf, yv, yls, yn, ym⟩, ep, ek⟩ : Ent), vpC (⟨yrs, ⟨yc, yrs, ye, yf, yv, yls, yn, ym⟩, ep, ek⟩ : Ent), VP.any, VP.any, VP.any]
        16 18 (by kernel_rfl) (by decide) (by decide) ⟨rfl, rfl⟩ (w.heap.size + 2) 24 (c1.setIfInBounds 24 (.slice q (n.la.take k).length cq)) 43 (0, 0) HV.out (fun e => by have := HNO.out _ e; have := HZ3.out; omega) HOW.out HWS.out ?_ ?_ ?_ ?_
      · intro i opr Ls vals w' hi hL hdep hC hK hob hV hP n1 n2
        have hlt : i < 19 := by have := (List.getElem?_eq_some_iff.1 hi).1; simpa using this
        generalize hA : frA _ _ Ls vals = a'
        have hT1 : a'.tmps.getD 1 undef = .pointer (some ⟨w.heap.size, 0, none⟩) := by rw [← hA, frA_base (by kernel_rfl)]; rfl
        have hT3 : a'.tmps.getD 3 undef = .pointer (some ⟨w.heap.size + 2, 0, none⟩) := by rw [← hA, frA_base (by kernel_rfl)]; rfl
        have hT4 : a'.tmps.getD 4 undef = .int .i64 k := by rw [← hA, frA_base (by kernel_rfl)]; rfl
        have hD := Lib.hid (fun k t (hk : Ls k = true) (ht : dstOf _ k = some t) => hA ▸ frA_done (by kernel_rfl) (vals := vals) hk ht)
        clear hA
        have x24' := (hK.cell (p := ⟨w.heap.size, 24, none⟩) HF1.out.1 HF1.out.2).trans HX24.out
        have z0' := (hK.cell (p := ⟨pb, po + k * 8, none⟩) HF2.out.1 HF2.out.2).trans HZ8.out.1
        have z1' := (hK.cell (p := ⟨pb, po + k * 8 + 1, none⟩) HF2.out.1 HF2.out.2).trans HZ8.out.2.1
        have z2' := (hK.cell (p := ⟨pb, po + k * 8 + 2, none⟩) HF2.out.1 HF2.out.2).trans HZ8.out.2.2.1
        have z3' := (hK.cell (p := ⟨pb, po + k * 8 + 3, none⟩) HF2.out.1 HF2.out.2).trans HZ8.out.2.2.2.1
        have z4' := (hK.cell (p := ⟨pb, po + k * 8 + 4, none⟩) HF2.out.1 HF2.out.2).trans HZ8.out.2.2.2.2.1
        have z5' := (hK.cell (p := ⟨pb, po + k * 8 + 5, none⟩) HF2.out.1 HF2.out.2).trans HZ8.out.2.2.2.2.2.1
        have z6' := (hK.cell (p := ⟨pb, po + k * 8 + 6, none⟩) HF2.out.1 HF2.out.2).trans HZ8.out.2.2.2.2.2.2.1
        have z7' := (hK.cell (p := ⟨pb, po + k * 8 + 7, none⟩) HF2.out.1 HF2.out.2).trans HZ8.out.2.2.2.2.2.2.2
        have hkn' : (k : Int) < (N : Int) := HKN.out
        obtain rfl | rfl | rfl | rfl | rfl | rfl | rfl | rfl | rfl | rfl | rfl | rfl | rfl | rfl | rfl | rfl | rfl : i = 0 ∨ i = 1 ∨ i = 2 ∨ i = 3 ∨ i = 4 ∨ i = 5 ∨ i = 6 ∨ i = 7 ∨ i = 8 ∨ i = 9 ∨ i = 10 ∨ i = 11 ∨ i = 12 ∨ i = 13 ∨ i = 14 ∨ i = 15 ∨ i = 17 := by omega
        all_goals
          injection hi with hi
          subst hi
          try simp [Region.binds] at hdep
        · exact step_run rfl (v := .pointer (some ⟨w.heap.size + 2, 24, none⟩)) (w' := w') (by go_simp) ⟨EqV.self rfl, fun _ => trivial, Below.refl _ _⟩
        · have d31 := hD.out 0 31 (by simp [hdep]) rfl
          rw [show vals 0 = _ from (hV 0 (by simp [hdep])).of rfl] at d31
          have hno : Ls 18 = false := by
            cases h : Ls 18 with
            | false => rfl
            | true => have := hC.path [18, 16, 1] (by kernel_rfl) 18 rfl h 1 rfl; rw [hL] at this; cases this
          have ob1 := hob hno
          have ob2 : w'.cell? ⟨w.heap.size + 2, 24, none⟩ = some (.slice q (n.la.take k).length cq) := by
            simp only [World.cell?, ob1]
            exact set_24 c1 (by rw [HC1S.out]; decide) _
          clear hob ob1
          exact step_run rfl (v := .slice q (n.la.take k).length cq) (w' := w') (by go_simp) ⟨EqV.self rfl, fun _ => trivial, Below.refl _ _⟩
        · exact step_run rfl (v := .pointer (some ⟨w.heap.size, 24, none⟩)) (w' := w') (by go_simp) ⟨EqV.self rfl, fun _ => trivial, Below.refl _ _⟩
        · have d33 := hD.out 2 33 (by simp [hdep]) rfl
          rw [show vals 2 = _ from (hV 2 (by simp [hdep])).of rfl] at d33
          exact step_run rfl (v := .slice (some ⟨pb, po, none⟩) N P.ak) (w' := w') (by go_simp) ⟨EqV.self rfl, fun _ => trivial, Below.refl _ _⟩
        · exact step_run rfl (v := .int .i64 k) (w' := w') (by go_simp) ⟨EqV.self rfl, fun _ => trivial, Below.refl _ _⟩
        · have d34 := hD.out 3 34 (by simp [hdep]) rfl
          rw [show vals 3 = _ from (hV 3 (by simp [hdep])).of rfl] at d34
          have d35 := hD.out 4 35 (by simp [hdep]) rfl
          rw [show vals 4 = _ from (hV 4 (by simp [hdep])).of rfl] at d35
          exact step_run rfl (v := .pointer (some ⟨pb, po + k * 8, none⟩)) (w' := w') (by go_simp) ⟨EqV.self rfl, fun _ => trivial, Below.refl _ _⟩
        · have d36 := hD.out 5 36 (by simp [hdep]) rfl
          rw [show vals 5 = _ from (hV 5 (by simp [hdep])).of rfl] at d36
          exact step_run rfl (v := .pointer (some ⟨pb, po + k * 8 + 1, none⟩)) (w' := w') (by go_simp) ⟨EqV.self rfl, fun _ => trivial, Below.refl _ _⟩
        · have d37 := hD.out 6 37 (by simp [hdep]) rfl
          rw [show vals 6 = _ from (hV 6 (by simp [hdep])).of rfl] at d37
          exact step_run rfl (v := .int .i64 yrs) (w' := w') (by go_simp) ⟨EqV.self rfl, fun _ => trivial, Below.refl _ _⟩
        · exact step_run rfl (v := .pointer (some ⟨w.heap.size, 24, none⟩)) (w' := w') (by go_simp) ⟨EqV.self rfl, fun _ => trivial, Below.refl _ _⟩
        · have d39 := hD.out 8 39 (by simp [hdep]) rfl
          rw [show vals 8 = _ from (hV 8 (by simp [hdep])).of rfl] at d39
          exact step_run rfl (v := .slice (some ⟨pb, po, none⟩) N P.ak) (w' := w') (by go_simp) ⟨EqV.self rfl, fun _ => trivial, Below.refl _ _⟩
        · exact step_run rfl (v := .int .i64 k) (w' := w') (by go_simp) ⟨EqV.self rfl, fun _ => trivial, Below.refl _ _⟩
        · have d40 := hD.out 9 40 (by simp [hdep]) rfl
          rw [show vals 9 = _ from (hV 9 (by simp [hdep])).of rfl] at d40
          have d41 := hD.out 10 41 (by simp [hdep]) rfl
          rw [show vals 10 = _ from (hV 10 (by simp [hdep])).of rfl] at d41
          exact step_run rfl (v := .pointer (some ⟨pb, po + k * 8, none⟩)) (w' := w') (by go_simp) ⟨EqV.self rfl, fun _ => trivial, Below.refl _ _⟩
        · have d42 := hD.out 11 42 (by simp [hdep]) rfl
          rw [show vals 11 = _ from (hV 11 (by simp [hdep])).of rfl] at d42
          exact step_run rfl (v := .agg #[.int .i64 yc, .int .i64 yrs, .int .i64 ye, .bool yf, .string (strB yv), .slice ep yls.length ek, .string (strB yn), .bool ym]) (w' := w') (by go_simp) ⟨EqV.self rfl, fun _ => trivial, Below.refl _ _⟩
        · have d38 := hD.out 7 38 (by simp [hdep]) rfl
          rw [show vals 7 = _ from (hV 7 (by simp [hdep])).of rfl] at d38
          have d43 := hD.out 12 43 (by simp [hdep]) rfl
          rw [show vals 12 = _ from (hV 12 (by simp [hdep])).of rfl] at d43
          rw [Array.getD_eq_getD_getElem?] at d38 d43
          exact step_run rfl (v := .agg #[.int .i64 yrs, .int .i64 yc, .int .i64 yrs, .int .i64 ye, .bool yf, .string (strB yv), .slice ep yls.length ek, .string (strB yn), .bool ym]) (w' := w') (by go_simp) ⟨EqV.self rfl, fun _ => trivial, Below.refl _ _⟩
        · have d44 := hD.out 13 44 (by simp [hdep]) rfl
          rw [show vals 13 = _ from (hV 13 (by simp [hdep])).of rfl] at d44
          rw [Array.getD_eq_getD_getElem?] at d44
          exact step_run rfl (v := .slice (some ⟨w'.heap.size, 0, none⟩) 1 1) (w' := w'.alloc (.cells #[.int .i64 yrs, .int .i64 yc, .int .i64 yrs, .int .i64 ye, .bool yf, .string (strB yv), .slice ep yls.length ek, .string (strB yn), .bool ym] 66)) (by go_simp) ⟨EqV.no rfl, fun _ => show ∃ b, Value.slice (some ⟨w'.heap.size, 0, none⟩) 1 1 = .slice (some ⟨b, 0, none⟩) 1 1 ∧ RowK KE _ (some ⟨b, 0, none⟩) [(⟨yrs, ⟨yc, yrs, ye, yf, yv, yls, yn, ym⟩, ep, ek⟩ : Ent)] from ⟨w'.heap.size, rfl, RowK.block KE (L := [(⟨yrs, ⟨yc, yrs, ye, yf, yv, yls, yn, ym⟩, ep, ek⟩ : Ent)]) (alloc_at w' (.cells #[.int .i64 yrs, .int .i64 yc, .int .i64 yrs, .int .i64 ye, .bool yf, .string (strB yv), .slice ep yls.length ek, .string (strB yn), .bool ym] 66))⟩, (Below.refl _ _).alloc (Nat.le_refl _) _⟩
        · have d45 := hD.out 14 45 (by simp [hdep]) rfl
          have hno : Ls 16 = false := by
            cases h : Ls 16 with
            | false => rfl
            | true => have := hC.path [16, 15] (by kernel_rfl) 16 rfl h 15 rfl; rw [hL] at this; cases this
          obtain ⟨b, hb1, hb2⟩ : ∃ b, vals 14 = .slice (some ⟨b, 0, none⟩) 1 1 ∧ RowK KE w' (some ⟨b, 0, none⟩) [(⟨yrs, ⟨yc, yrs, ye, yf, yv, yls, yn, ym⟩, ep, ek⟩ : Ent)] := hP hno 14 (by simp [hdep])
          rw [hb1] at d45
          exact step_enter rfl (f := 20) (args := #[.slice (some ⟨b, 0, none⟩) 1 1]) (w' := w') (by go_simp) ((CM12.out w' b hb2).mono fun e w'' ⟨v, he, ho, hb⟩ => ⟨v, he, EqV.no rfl, fun _ => (by
            obtain ⟨p7, c7, e7, _, h7, hr7, _⟩ := OwnE.row ho
            show ∃ q c, v = .slice q 1 c ∧ (q = none → c = 0) ∧ RowK KE w'' q [(⟨yrs, ⟨yc, yrs, ye, yf, yv, yls, yn, ym⟩, ep, ek⟩ : Ent)]
            exact ⟨p7, c7, e7, h7, rowE_iff.2 hr7⟩), hb⟩)
        · exact step_run rfl (v := .pointer (some ⟨w.heap.size + 2, 24, none⟩)) (w' := w') (by go_simp) ⟨EqV.self rfl, fun _ => trivial, Below.refl _ _⟩
      · intro opr Ls vals w' hi hdep hC hK hV hP hown hBw
        generalize hA : frA _ _ Ls vals = a'
        have hT1 : a'.tmps.getD 1 undef = .pointer (some ⟨w.heap.size, 0, none⟩) := by rw [← hA, frA_base (by kernel_rfl)]; rfl
        have hT3 : a'.tmps.getD 3 undef = .pointer (some ⟨w.heap.size + 2, 0, none⟩) := by rw [← hA, frA_base (by kernel_rfl)]; rfl
        have hT4 : a'.tmps.getD 4 undef = .int .i64 k := by rw [← hA, frA_base (by kernel_rfl)]; rfl
        have hD := Lib.hid (fun k t (hk : Ls k = true) (ht : dstOf _ k = some t) => hA ▸ frA_done (by kernel_rfl) (vals := vals) hk ht)
        clear hA
        injection hi with hi
        subst hi
        simp [Region.binds] at hdep
        have d32 := hD.out 1 32 (by simp [hdep]) rfl
        rw [show vals 1 = _ from (hV 1 (by simp [hdep])).of rfl] at d32
        have d46 := hD.out 15 46 (by simp [hdep]) rfl
        obtain ⟨q7, c7, h1, h2, h3⟩ : ∃ q c, vals 15 = .slice q 1 c ∧ (q = none → c = 0) ∧ RowK KE w' q [(⟨yrs, ⟨yc, yrs, ye, yf, yv, yls, yn, ym⟩, ep, ek⟩ : Ent)] := hP 15 (by simp [hdep])
        rw [h1] at d46
        exact stepI_app_k ske_once rfl _ _ rfl d32 hown q7 c7 [(⟨yrs, ⟨yc, yrs, ye, yf, yv, yls, yn, ym⟩, ep, ek⟩ : Ent)] d46 h3 h2 (by have := HLK.out; simp only [List.length_cons, List.length_nil]; omega) hBw fun v' w'' h1 h2 h3 => ⟨h1, h2, h3⟩
      · intro opr Ls vals w' q5 c5 hi hdep hC hLa hV hv hob
        generalize hA : frA _ _ Ls vals = a'
        have hT1 : a'.tmps.getD 1 undef = .pointer (some ⟨w.heap.size, 0, none⟩) := by rw [← hA, frA_base (by kernel_rfl)]; rfl
        have hT3 : a'.tmps.getD 3 undef = .pointer (some ⟨w.heap.size + 2, 0, none⟩) := by rw [← hA, frA_base (by kernel_rfl)]; rfl
        have hT4 : a'.tmps.getD 4 undef = .int .i64 k := by rw [← hA, frA_base (by kernel_rfl)]; rfl
        have hD := Lib.hid (fun k t (hk : Ls k = true) (ht : dstOf _ k = some t) => hA ▸ frA_done (by kernel_rfl) (vals := vals) hk ht)
        clear hA
        injection hi with hi
        subst hi
        simp [Region.binds] at hdep
        have d48 := hD.out 17 48 (by simp [hdep]) rfl
        rw [show vals 17 = _ from (hV 17 (by simp [hdep])).of rfl] at d48
        have d47 := hD.out 16 47 (by simp [hdep]) rfl
        rw [hv] at d47
        have g1 : w'.cell? ⟨w.heap.size + 2, 24, none⟩ = some (.slice q (n.la.take k).length cq) := by
          simp only [World.cell?, hob]
          exact set_24 c1 (by rw [HC1S.out]; decide) _
        have g2 : w'.frozen? ⟨w.heap.size + 2, 24, none⟩ = false := by simp [World.frozen?, hob]
        clear hob
        exact stepI_skip rfl (w' := w'.setCell ⟨w.heap.size + 2, 24, none⟩ (.slice q5 ((n.la.take k) ++ ([(⟨yrs, ⟨yc, yrs, ye, yf, yv, yls, yn, ym⟩, ep, ek⟩ : Ent)] : List Ent)).length c5)) (by go_simp) rfl
      · intro vals w4 hK hob hown hV
        have e0 : vals 0 = .pointer (some ⟨w.heap.size + 2, 24, none⟩) := (hV 0 (by decide)).of rfl
        have e1 : vals 1 = .slice q (n.la.take k).length cq := (hV 1 (by decide)).of rfl
        have e2 : vals 2 = .pointer (some ⟨w.heap.size, 24, none⟩) := (hV 2 (by decide)).of rfl
        have e3 : vals 3 = .slice (some ⟨pb, po, none⟩) N P.ak := (hV 3 (by decide)).of rfl
        have e4 : vals 4 = .int .i64 k := (hV 4 (by decide)).of rfl
        have e5 : vals 5 = .pointer (some ⟨pb, po + k * 8, none⟩) := (hV 5 (by decide)).of rfl
        have e6 : vals 6 = .pointer (some ⟨pb, po + k * 8 + 1, none⟩) := (hV 6 (by decide)).of rfl
        have e7 : vals 7 = .int .i64 yrs := (hV 7 (by decide)).of rfl
        have e8 : vals 8 = .pointer (some ⟨w.heap.size, 24, none⟩) := (hV 8 (by decide)).of rfl
        have e9 : vals 9 = .slice (some ⟨pb, po, none⟩) N P.ak := (hV 9 (by decide)).of rfl
        have e10 : vals 10 = .int .i64 k := (hV 10 (by decide)).of rfl
        have e11 : vals 11 = .pointer (some ⟨pb, po + k * 8, none⟩) := (hV 11 (by decide)).of rfl
        have e12 : vals 12 = .agg #[.int .i64 yc, .int .i64 yrs, .int .i64 ye, .bool yf, .string (strB yv), .slice ep yls.length ek, .string (strB yn), .bool ym] := (hV 12 (by decide)).of rfl
        have e13 : vals 13 = .agg #[.int .i64 yrs, .int .i64 yc, .int .i64 yrs, .int .i64 ye, .bool yf, .string (strB yv), .slice ep yls.length ek, .string (strB yn), .bool ym] := (hV 13 (by decide)).of rfl
        have e17 : vals 17 = .pointer (some ⟨w.heap.size + 2, 24, none⟩) := (hV 17 (by decide)).of rfl
        have HQ := Lib.hid (show MkI W3 (w.heap.size + 2) c1 n.la (k + 1) w4 from ⟨HKP.out.trans hK (fun i hi h => h.elim id fun h => by have := HNO.out _ h; omega), vals 16, by rw [Array.setIfInBounds_setIfInBounds] at hob; exact hob, by rw [HTK.out]; exact hown⟩)
        simp only [putsL, Act.put, List.setIfInBounds_toArray, List.set_cons_zero, List.set_cons_succ, e0, e1, e2, e3, e4, e5, e6, e7, e8, e9, e10, e11, e12, e13, e17]
        clear e0 e1 e2 e3 e4 e5 e6 e7 e8 e9 e10 e11 e12 e13 e17
        clear hK hob hown hV
        go_wp2_with fail
        exact ⟨⟨k + 1, by go_num, hk, HQ⟩, by simp [RowKit.intOf]; omega⟩
    · have hkz : ¬ (k : Int) < (N : Int) := by omega
      have hke : k = N := by omega
      obtain ⟨v, hv, hown⟩ := HI.out.row
      have HOW := Lib.hid hown
      have HKP := Lib.hid HI.out.kept
      have HV := Lib.hid hv
      obtain ⟨q, cq, rfl, -, -, -, -⟩ := HOW.out.row
      have HNO := Lib.hid (show ∀ g, (Value.slice q (n.la.take k).length cq).ownBlock = some g → W3.heap.size ≤ g from fun g hg => (HOW.out.ltB g hg).1)
      have HTA := Lib.hid (show n.la.take k = n.la from List.take_of_length_le (by rw [HN.out]; omega))
      have HBR := Lib.hid (show Below w.heap.size w wr from HBW.out.trans (HKP.out.below (B := w.heap.size) (fun j h => by have : j = _ := h; omega) (by have := HZ3.out; omega)))
      have HRR := Lib.hid ((HKP.out.block (w.heap.size + 1) (by have := HZ3.out; omega) (by show ¬ w.heap.size + 1 = _; omega)).trans HRB.out)
      have x25 := (HI.out.kept.cell (p := ⟨w.heap.size, 25, none⟩) (by have := HZ3.out; show w.heap.size < _; omega) (by show ¬ w.heap.size = _; omega)).trans ((HC.out W3 HB13.out 25).trans A25.out)
      have x26 := (HI.out.kept.cell (p := ⟨w.heap.size, 26, none⟩) (by have := HZ3.out; show w.heap.size < _; omega) (by show ¬ w.heap.size = _; omega)).trans ((HC.out W3 HB13.out 26).trans A26.out)
      have hwz : w.heap.size + 2 < wr.heap.size := by have := HI.out.kept.size; have := HZ3.out; omega
      have HWZ := Lib.hid hwz
      -- what stands at the end
      have HEND := Lib.hid (show ∀ (cF : Array Value) (P4 : NtP) (w7 : World), .agg cF = ntV n P4 → Below w.heap.size w w7 → w7.heap[w.heap.size + 1]? = some (.cells cF 43 (0, 0)) → P4.rp = P.rp → P4.lp = P.lp → (RowE w7 P4.ap n.la ∧ TyP w7 P4.ap 84) → (RowK KS w7 P4.hp n.sh ∧ TyP w7 P4.hp 70) → RetMk w n P (.returned (.agg cF)) w7 from fun cF P4 w7 h1 h2 _ h4 h5 h6 h7 => ⟨P4, by rw [h1], h2, ⟨by rw [h4]; exact HIN.out.rs.below h2, by rw [h5]; exact HIN.out.ls.below h2, h6.1, fun e he => (HIN.out.les e he).rs.below h2, h7.1⟩, ⟨h4, h5⟩, h6.2, h7.2⟩)
      have HSZ := Lib.hid (show noteZ.size = 27 from rfl)
      have CA1 := Lib.hid (CAT.out wr HBR.out)
      clear hke HI hv hown hwz
      obtain ⟨S, hS⟩ : ∃ S, n.sh.length = S := ⟨_, rfl⟩
      have HS := Lib.hid hS
      rw [hS] at x26 CA1
      clear hS
      by_cases hem : n.ae = 0 ∧ S = 0
      · obtain ⟨h1, h2⟩ := hem
        have h1d : ((n.ae : Int) != 0) = false := by simp [h1]
        subst h2
        have HS0 := Lib.hid (show n.sh = [] from List.eq_nil_of_length_eq_zero HS.out)
        have HAE := Lib.hid h1
        obtain ⟨cf, hcf⟩ : ∃ cf, (c1.setIfInBounds 24 (.slice q (n.la.take k).length cq)) = cf := ⟨_, rfl⟩
        have HV7 := Lib.hid (hcf ▸ HV.out)
        have HCV := Lib.hid (show Value.agg cf = ntV n { P with ap := q, ak := cq, hp := none, hk := 0 } from by
          rw [← hcf, HTA.out, ← HC1.out]
          unfold ntV ntList
          rw [HAE.out, HS.out]; rfl)
        have HB7 := HBR
        have HR7 := HRR
        have HO7 := Lib.hid (show ∀ w7, KeptF (fun j => j = w.heap.size + 1) wr w7 → (RowE w7 q n.la ∧ TyP w7 q 84) from fun w7 h => by
          have hO := HOW.out.kept h (fun g hg e => by have := HNO.out g hg; have := HZ3.out; omega)
          obtain ⟨q', c', e', _, _, h', _⟩ := hO.row
          refine ⟨?_, own_typ hO⟩
          injection e' with e' _ _
          rw [← HTA.out, e']; exact rowE_iff.1 h')
        have HK7 := Lib.hid (show ∀ w7, KeptF (fun j => j = w.heap.size + 1) wr w7 → (RowK KS w7 none n.sh ∧ TyP w7 none 70) from fun w7 _ => ⟨Or.inl HS0.out, TyP.none _ _⟩)
        clear hcf
        go_upto_region 8 with fail
        have HCS := Lib.hid (show cf.size = 27 by
          have := HCV.out
          unfold ntV at this
          injection this with this
          rw [this]; rfl)
        have HIF := Lib.hid (show (Try.prog.info? 43).map (·.size) = some cf.size by rw [HCS.out]; exact info_note)
        have HOF := Lib.hid (show cf.all (·.oneCell') = true by
          have := HCV.out
          unfold ntV at this
          injection this with this
          rw [this]; exact nt_one _ _)
        have HZF := Lib.hid (show noteZ.size = cf.size by rw [HCS.out]; rfl)
        have HKF := Lib.hid (show KeptF (fun j => j = w.heap.size + 1) wr (wr.setRow (w.heap.size + 1) cf) from ⟨rfl, rfl, rfl, Nat.le_of_eq (size_setRow _ _ _).symm, fun k _ hn => setRow_other hn⟩)
        have HAF := Lib.hid (show (wr.setRow (w.heap.size + 1) cf).heap[w.heap.size + 1]? = some (.cells cf 43 (0, 0)) from setRow_heap _ _ _ _ _ _ HR7.out)
        have HQF := Lib.hid (HEND.out cf ({ P with ap := q, ak := cq, hp := none, hk := 0 }) (wr.setRow (w.heap.size + 1) cf) HCV.out (below_setRow (cs := cf) HB7.out (by omega)) HAF.out rfl rfl (HO7.out _ HKF.out) (HK7.out _ HKF.out))
        go_wp2_with (first | (with_reducible refine wpList_load_row rfl 43 (.tmp 3) rfl (w.heap.size + 2) rfl 43 cf (0, 0) _ HV7.out Try.underlying43 rfl HIF.out ?_) | (with_reducible refine wpList_store_row rfl 43 (.tmp 2) (.tmp 64) rfl (w.heap.size + 1) cf rfl rfl 43 noteZ HR7.out HIF.out HZF.out HOF.out ?_))
        exact bodyPost_ret (v := .agg cf) (results_cell_row rfl _ _ (w.heap.size + 1) 43 cf (0, 0) _ rfl HAF.out Try.underlying43 rfl HIF.out) rfl HQF.out
      · have hst : n.ae = 0 → (0 : Int) < (S : Int) := fun h => by
          have : ¬ S = 0 := fun e => hem ⟨h, e⟩
          omega
        clear hem
        rcases Decidable.em (n.ae = 0) with h1 | h1
        · have h1d : ((n.ae : Int) != 0) = false := by simp [h1]
          have hst := hst h1
          have hst2 : decide ((0 : Int) < (S : Int)) = true := decide_eq_true hst
          clear h1
          go_upto_region 7 with fail
          go_wp2_with fail
          refine CA1.out.mono ?_
          rintro e w5 ⟨v5, rfl, ho5, hb5⟩
          obtain ⟨p5, d5, rfl, -, -, -, -⟩ := ho5.row
          rw [HS.out] at ho5 ⊢
          have HV5 := Lib.hid ((hb5.block (w.heap.size + 2) (by have := HWZ.out; omega)).trans HV.out)
          have HR5 := Lib.hid ((hb5.block (w.heap.size + 1) (by have := HWZ.out; omega)).trans HRR.out)
          have HB5 := Lib.hid (HBR.out.trans (hb5.mono HBR.out.size))
          have HO5 := Lib.hid (HOW.out.below hb5)
          have HN5 := Lib.hid (show ∀ g, (Value.slice p5 S d5).ownBlock = some g → W3.heap.size ≤ g from fun g hg => by
            have := (ho5.ltB g hg).1
            have := HWZ.out; have := HKP.out.size
            omega)
          have HP5 := Lib.hid ho5
          have y25 : w5.cell? ⟨w.heap.size + 2, 25, none⟩ = some (.int .i64 0) := by
            simp only [World.cell?, HV5.out]
            rw [← HC1.out]; rfl
          have y26 : w5.cell? ⟨w.heap.size + 2, 26, none⟩ = some (.slice none 0 0) := by
            simp only [World.cell?, HV5.out]
            rw [← HC1.out]; rfl
          have y27 : w5.frozen? ⟨w.heap.size + 2, 25, none⟩ = false := by simp [World.frozen?, HV5.out]
          have y28 : w5.frozen? ⟨w.heap.size + 2, 26, none⟩ = false := by simp [World.frozen?, HV5.out]
          obtain ⟨w6, hw6⟩ : ∃ w6, (w5.setCell ⟨w.heap.size + 2, 25, none⟩ (.int .i64 n.ae)).setCell ⟨w.heap.size + 2, 26, none⟩ (.slice p5 S d5) = w6 := ⟨_, rfl⟩
          have HW6 := Lib.hid hw6
          obtain ⟨cf, hcf⟩ : ∃ cf, (((c1.setIfInBounds 24 (.slice q (n.la.take k).length cq)).setIfInBounds 25 (.int .i64 n.ae)).setIfInBounds 26 (.slice p5 S d5)) = cf := ⟨_, rfl⟩
          have HV7 := Lib.hid (show w6.heap[w.heap.size + 2]? = some (.cells cf 43 (0, 0)) by
            rw [← hw6, ← hcf]; exact layCell_block (layCell_block HV5.out 25 _) 26 _)
          have HK56 := Lib.hid (show KeptF (fun j => j = w.heap.size + 2) w5 w6 from by
            have h0 : KeptF (fun j => j = w.heap.size + 2) w5 w5 := KeptF.refl _ _
            rw [← hw6]
            exact (h0.set (p := ⟨w.heap.size + 2, 25, none⟩) rfl _).set (p := ⟨w.heap.size + 2, 26, none⟩) rfl _)
          have HCV := Lib.hid (show Value.agg cf = ntV n { P with ap := q, ak := cq, hp := p5, hk := d5 } from by
            rw [← hcf, HTA.out, ← HC1.out]
            unfold ntV ntList
            rw [HS.out]; rfl)
          have HB7 := Lib.hid (HB5.out.trans (HK56.out.below (B := w.heap.size) (fun j h => by have : j = _ := h; omega) HB5.out.size))
          have HR7 := Lib.hid ((HK56.out.block (w.heap.size + 1) (by have := HWZ.out; have := hb5.size; omega) (by show ¬ w.heap.size + 1 = _; omega)).trans HR5.out)
          have HO7 := Lib.hid (show ∀ w7, KeptF (fun j => j = w.heap.size + 1) w6 w7 → (RowE w7 q n.la ∧ TyP w7 q 84) from fun w7 h => by
            have hO := (HO5.out.kept HK56.out (fun g hg e => by have := HNO.out g hg; have := HZ3.out; omega)).kept h (fun g hg e => by have := HNO.out g hg; have := HZ3.out; omega)
            obtain ⟨q', c', e', _, _, h', _⟩ := hO.row
            refine ⟨?_, own_typ hO⟩
            injection e' with e' _ _
            rw [← HTA.out, e']; exact rowE_iff.1 h')
          have HK7 := Lib.hid (show ∀ w7, KeptF (fun j => j = w.heap.size + 1) w6 w7 → (RowK KS w7 p5 n.sh ∧ TyP w7 p5 70) from fun w7 h => by
            have hO := (HP5.out.kept HK56.out (fun g hg e => by have := HN5.out g hg; have := HZ3.out; omega)).kept h (fun g hg e => by have := HN5.out g hg; have := HZ3.out; omega)
            obtain ⟨q', c', e', _, _, h', _⟩ := hO.row
            refine ⟨?_, own_typ hO⟩
            injection e' with e' _ _
            rw [e']; exact h')
          clear hcf hw6 hb5 ho5
          go_upto_region 8 with fail
          rw [HW6.out]
          have HCS := Lib.hid (show cf.size = 27 by
            have := HCV.out
            unfold ntV at this
            injection this with this
            rw [this]; rfl)
          have HIF := Lib.hid (show (Try.prog.info? 43).map (·.size) = some cf.size by rw [HCS.out]; exact info_note)
          have HOF := Lib.hid (show cf.all (·.oneCell') = true by
            have := HCV.out
            unfold ntV at this
            injection this with this
            rw [this]; exact nt_one _ _)
          have HZF := Lib.hid (show noteZ.size = cf.size by rw [HCS.out]; rfl)
          have HKF := Lib.hid (show KeptF (fun j => j = w.heap.size + 1) w6 (w6.setRow (w.heap.size + 1) cf) from ⟨rfl, rfl, rfl, Nat.le_of_eq (size_setRow _ _ _).symm, fun k _ hn => setRow_other hn⟩)
          have HAF := Lib.hid (show (w6.setRow (w.heap.size + 1) cf).heap[w.heap.size + 1]? = some (.cells cf 43 (0, 0)) from setRow_heap _ _ _ _ _ _ HR7.out)
          have HQF := Lib.hid (HEND.out cf ({ P with ap := q, ak := cq, hp := p5, hk := d5 }) (w6.setRow (w.heap.size + 1) cf) HCV.out (below_setRow (cs := cf) HB7.out (by omega)) HAF.out rfl rfl (HO7.out _ HKF.out) (HK7.out _ HKF.out))
          go_wp2_with (first | (with_reducible refine wpList_load_row rfl 43 (.tmp 3) rfl (w.heap.size + 2) rfl 43 cf (0, 0) _ HV7.out Try.underlying43 rfl HIF.out ?_) | (with_reducible refine wpList_store_row rfl 43 (.tmp 2) (.tmp 64) rfl (w.heap.size + 1) cf rfl rfl 43 noteZ HR7.out HIF.out HZF.out HOF.out ?_))
          exact bodyPost_ret (v := .agg cf) (results_cell_row rfl _ _ (w.heap.size + 1) 43 cf (0, 0) _ rfl HAF.out Try.underlying43 rfl HIF.out) rfl HQF.out
        · have h1d : ((n.ae : Int) != 0) = true := by simp [h1]
          clear hst h1
          go_upto_region 7 with fail
          go_wp2_with fail
          refine CA1.out.mono ?_
          rintro e w5 ⟨v5, rfl, ho5, hb5⟩
          obtain ⟨p5, d5, rfl, -, -, -, -⟩ := ho5.row
          rw [HS.out] at ho5 ⊢
          have HV5 := Lib.hid ((hb5.block (w.heap.size + 2) (by have := HWZ.out; omega)).trans HV.out)
          have HR5 := Lib.hid ((hb5.block (w.heap.size + 1) (by have := HWZ.out; omega)).trans HRR.out)
          have HB5 := Lib.hid (HBR.out.trans (hb5.mono HBR.out.size))
          have HO5 := Lib.hid (HOW.out.below hb5)
          have HN5 := Lib.hid (show ∀ g, (Value.slice p5 S d5).ownBlock = some g → W3.heap.size ≤ g from fun g hg => by
            have := (ho5.ltB g hg).1
            have := HWZ.out; have := HKP.out.size
            omega)
          have HP5 := Lib.hid ho5
          have y25 : w5.cell? ⟨w.heap.size + 2, 25, none⟩ = some (.int .i64 0) := by
            simp only [World.cell?, HV5.out]
            rw [← HC1.out]; rfl
          have y26 : w5.cell? ⟨w.heap.size + 2, 26, none⟩ = some (.slice none 0 0) := by
            simp only [World.cell?, HV5.out]
            rw [← HC1.out]; rfl
          have y27 : w5.frozen? ⟨w.heap.size + 2, 25, none⟩ = false := by simp [World.frozen?, HV5.out]
          have y28 : w5.frozen? ⟨w.heap.size + 2, 26, none⟩ = false := by simp [World.frozen?, HV5.out]
          obtain ⟨w6, hw6⟩ : ∃ w6, (w5.setCell ⟨w.heap.size + 2, 25, none⟩ (.int .i64 n.ae)).setCell ⟨w.heap.size + 2, 26, none⟩ (.slice p5 S d5) = w6 := ⟨_, rfl⟩
          have HW6 := Lib.hid hw6
          obtain ⟨cf, hcf⟩ : ∃ cf, (((c1.setIfInBounds 24 (.slice q (n.la.take k).length cq)).setIfInBounds 25 (.int .i64 n.ae)).setIfInBounds 26 (.slice p5 S d5)) = cf := ⟨_, rfl⟩
          have HV7 := Lib.hid (show w6.heap[w.heap.size + 2]? = some (.cells cf 43 (0, 0)) by
            rw [← hw6, ← hcf]; exact layCell_block (layCell_block HV5.out 25 _) 26 _)
          have HK56 := Lib.hid (show KeptF (fun j => j = w.heap.size + 2) w5 w6 from by
            have h0 : KeptF (fun j => j = w.heap.size + 2) w5 w5 := KeptF.refl _ _
            rw [← hw6]
            exact (h0.set (p := ⟨w.heap.size + 2, 25, none⟩) rfl _).set (p := ⟨w.heap.size + 2, 26, none⟩) rfl _)
          have HCV := Lib.hid (show Value.agg cf = ntV n { P with ap := q, ak := cq, hp := p5, hk := d5 } from by
            rw [← hcf, HTA.out, ← HC1.out]
            unfold ntV ntList
            rw [HS.out]; rfl)
          have HB7 := Lib.hid (HB5.out.trans (HK56.out.below (B := w.heap.size) (fun j h => by have : j = _ := h; omega) HB5.out.size))
          have HR7 := Lib.hid ((HK56.out.block (w.heap.size + 1) (by have := HWZ.out; have := hb5.size; omega) (by show ¬ w.heap.size + 1 = _; omega)).trans HR5.out)
          have HO7 := Lib.hid (show ∀ w7, KeptF (fun j => j = w.heap.size + 1) w6 w7 → (RowE w7 q n.la ∧ TyP w7 q 84) from fun w7 h => by
            have hO := (HO5.out.kept HK56.out (fun g hg e => by have := HNO.out g hg; have := HZ3.out; omega)).kept h (fun g hg e => by have := HNO.out g hg; have := HZ3.out; omega)
            obtain ⟨q', c', e', _, _, h', _⟩ := hO.row
            refine ⟨?_, own_typ hO⟩
            injection e' with e' _ _
            rw [← HTA.out, e']; exact rowE_iff.1 h')
          have HK7 := Lib.hid (show ∀ w7, KeptF (fun j => j = w.heap.size + 1) w6 w7 → (RowK KS w7 p5 n.sh ∧ TyP w7 p5 70) from fun w7 h => by
            have hO := (HP5.out.kept HK56.out (fun g hg e => by have := HN5.out g hg; have := HZ3.out; omega)).kept h (fun g hg e => by have := HN5.out g hg; have := HZ3.out; omega)
            obtain ⟨q', c', e', _, _, h', _⟩ := hO.row
            refine ⟨?_, own_typ hO⟩
            injection e' with e' _ _
            rw [e']; exact h')
          clear hcf hw6 hb5 ho5
          go_upto_region 8 with fail
          rw [HW6.out]
          have HCS := Lib.hid (show cf.size = 27 by
            have := HCV.out
            unfold ntV at this
            injection this with this
            rw [this]; rfl)
          have HIF := Lib.hid (show (Try.prog.info? 43).map (·.size) = some cf.size by rw [HCS.out]; exact info_note)
          have HOF := Lib.hid (show cf.all (·.oneCell') = true by
            have := HCV.out
            unfold ntV at this
            injection this with this
            rw [this]; exact nt_one _ _)
          have HZF := Lib.hid (show noteZ.size = cf.size by rw [HCS.out]; rfl)
          have HKF := Lib.hid (show KeptF (fun j => j = w.heap.size + 1) w6 (w6.setRow (w.heap.size + 1) cf) from ⟨rfl, rfl, rfl, Nat.le_of_eq (size_setRow _ _ _).symm, fun k _ hn => setRow_other hn⟩)
          have HAF := Lib.hid (show (w6.setRow (w.heap.size + 1) cf).heap[w.heap.size + 1]? = some (.cells cf 43 (0, 0)) from setRow_heap _ _ _ _ _ _ HR7.out)
          have HQF := Lib.hid (HEND.out cf ({ P with ap := q, ak := cq, hp := p5, hk := d5 }) (w6.setRow (w.heap.size + 1) cf) HCV.out (below_setRow (cs := cf) HB7.out (by omega)) HAF.out rfl rfl (HO7.out _ HKF.out) (HK7.out _ HKF.out))
          go_wp2_with (first | (with_reducible refine wpList_load_row rfl 43 (.tmp 3) rfl (w.heap.size + 2) rfl 43 cf (0, 0) _ HV7.out Try.underlying43 rfl HIF.out ?_) | (with_reducible refine wpList_store_row rfl 43 (.tmp 2) (.tmp 64) rfl (w.heap.size + 1) cf rfl rfl 43 noteZ HR7.out HIF.out HZF.out HOF.out ?_))
          exact bodyPost_ret (v := .agg cf) (results_cell_row rfl _ _ (w.heap.size + 1) 43 cf (0, 0) _ rfl HAF.out Try.underlying43 rfl HIF.out) rfl HQF.out
end Go.Proofs.Ytfadpiipigkocaa
