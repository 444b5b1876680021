/-
  Layer once: OnceSets.
-/
import Derived.Test.YtjlkfoaccllflaaOnRun
import Derived.Test.YtjlkfoaccllflaaOnAwake
import Derived.Test.YtjlkfoaccllflaaOnConv
import Derived.Test.YtjlkfoaccllflaaOnSame
namespace Go.Proofs.Ytjlkfoaccllflaa
open Go.RowKit Go.Gz

theorem TabAt.keepOff {F : Nat → Prop} {w w' : World} {T : Nat} {mb : Option Nat} {L : List Ent} (h : TabAt w T mb L) (hk : Kept F w w') (hT : ¬ F T) (hm : ∀ b, mb = some b → ¬ F b) (hn : ∀ i, F i → NoText w i) : TabAt w' T mb L :=
  ⟨(hk.block T h.lt hT).trans h.c, h.m.keep fun b e => hk.block b (h.m.lt b e) (hm b e), h.e.kept hk hn, h.n⟩
/-- a row of entries that is told. -/
def vpE (B : Nat) (t : TypeId) (S : List (Int × RepL)) : VP := ⟨fun v w => ∃ L, OwnE w B t v L ∧ semL L = S ∧ EntsIn w L, fun v w w' h hb => by
  obtain ⟨L, h1, h2, h3⟩ := h
  exact ⟨L, h1.below hb, h2, h3.below hb⟩⟩
structure S2 (W2 : World) (B O : Nat) (X : List Ent) (k : Nat) (lv : Value) (wr : World) : Prop where
  ref : ∃ v, OnAt wr B O v (notesE (X.take k)) ∧ (∀ g, v.ownBlock = some g → W2.heap.size ≤ g ∧ lv.ownBlock ≠ some g)
  own : OwnE wr W2.heap.size 39 lv (X.take k)
  kept : Kept (fun i => i = O) W2 wr
theorem take_snoc {X : List Ent} {k : Nat} {e : Ent} (h : k < X.length) (he : X.getD k default = e) : X.take (k + 1) = X.take k ++ [e] := by
  rw [List.take_succ_eq_append_getElem h, ← he]
  simp [List.getD, h]

set_option maxHeartbeats 8000000 in
set_option maxRecDepth 1000000 in
theorem sets_walk (w0 : World) (A X : List Ent) (pa pb : Option Addr) (ca cb : Nat) (ha : RowP w0 pa A) (hx : RowP w0 pb X) (hA : ∀ e ∈ A, ArgIn w0 e) (hX : ∀ e ∈ X, ArgIn w0 e) (la : A.length ≤ 9223372036854775807) (lx : X.length ≤ 9223372036854775807) :
    Calls Try.prog 5 #[.slice pa A.length ca, .slice pb X.length cb] w0 fun e w' => e = .returned (.bool true) ∧ Below w0.heap.size w0 w' := by
  have CA := Lib.hid (awakeOn_yes w0)
  have HA := Lib.hid (And.intro (And.intro ha hA) la)
  have HX := Lib.hid (And.intro (And.intro hx hX) lx)
  obtain ⟨na, hna⟩ : ∃ n, A.length = n := ⟨_, rfl⟩
  obtain ⟨nx, hnx⟩ : ∃ n, X.length = n := ⟨_, rfl⟩
  have HN := Lib.hid (And.intro hna hnx)
  rw [hna, hnx]
  have hnab : (na : Int) ≤ 9223372036854775807 := by omega
  have hnxb : (nx : Int) ≤ 9223372036854775807 := by omega
  clear ha hx hA hX la lx hna hnx
  go_enter Try.func5, Try.ntmps5
  go_wp2_with fail
  refine CA.out.mono ?_
  rintro e w1 ⟨rfl, hb1⟩
  have HB1 := Lib.hid hb1
  have C1 := Lib.hid (smallL_any w1 A pa ca (HA.out.1.1.below hb1) (fun e he => by
    have h := HA.out.1.2 e he
    exact ⟨h.rs.below hb1, h.lo, h.pc, h.wf, h.s⟩) HA.out.2)
  rw [HN.out.1] at C1
  clear hb1 CA
  go_wp2_with fail
  refine C1.out.mono ?_
  rintro e w2 ⟨b1, rfl, hs1, hb2⟩
  have HB2 := Lib.hid (HB1.out.trans (hb2.mono HB1.out.size))
  have HS1 := Lib.hid hs1
  clear hb2 hs1 C1
  cases b1 with
  | false =>
    go_wp2_with fail
    go_ret
    exact ⟨rfl, HB2.out⟩
  | true =>
  have C2 := Lib.hid (smallL_any w2 X pb cb (HX.out.1.1.below HB2.out) (fun e he => by
    have h := HX.out.1.2 e he
    exact ⟨h.rs.below HB2.out, h.lo, h.pc, h.wf, h.s⟩) HX.out.2)
  rw [HN.out.2] at C2
  go_wp2_with fail
  refine C2.out.mono ?_
  rintro e w3 ⟨b2, rfl, hs2, hb3⟩
  have HB3 := Lib.hid (HB2.out.trans (hb3.mono HB2.out.size))
  have HS2 := Lib.hid hs2
  clear hb3 hs2 C2
  cases b2 with
  | false =>
    go_wp2_with fail
    go_ret
    exact ⟨rfl, HB3.out⟩
  | true =>
  have HRA := Lib.hid (show ArgRow w0 pa A from ⟨HA.out.1.1, HA.out.1.2, (HS1.out (by first | rfl | trivial)).2, (HS1.out (by first | rfl | trivial)).1⟩)
  have HRX := Lib.hid (show ArgRow w0 pb X from ⟨HX.out.1.1, HX.out.1.2, (HS2.out (by first | rfl | trivial)).2, (HS2.out (by first | rfl | trivial)).1⟩)
  have C3 := Lib.hid (new_any w3)
  clear HA HX HS1 HS2 hnab hnxb
  have hnab : (na : Int) ≤ 101 := by have := HRA.out.len; have := HN.out.1; omega
  have hnxb : (nx : Int) ≤ 101 := by have := HRX.out.len; have := HN.out.2; omega
  go_wp2_with fail
  refine C3.out.mono ?_
  rintro e w4 ⟨rfl, hT4, hb4⟩
  obtain ⟨T, hT0⟩ : ∃ T, w3.heap.size = T := ⟨_, rfl⟩
  obtain ⟨O, hO0⟩ : ∃ O, w4.heap.size = O := ⟨_, rfl⟩
  obtain ⟨W, hW⟩ : ∃ W, w4.alloc (.cells #[.slice none 0 0] 28) = W := ⟨_, rfl⟩
  have hbW : Below w4.heap.size w4 W := hW ▸ (Below.refl _ _).alloc (Nat.le_refl _) _
  have hO : W.heap[w4.heap.size]? = some (.cells #[.slice none 0 0] 28 (0, 0)) := hW ▸ new_block _ _ _
  have hTW := hT4.below hbW
  rw [hT0] at hTW hT4 hb4 ⊢
  rw [hO0] at hO
  have HBW := Lib.hid (show Below w0.heap.size w0 W from (HB3.out.trans (hb4.mono (by have := HB3.out.size; omega))).trans (hbW.mono (by have := HB3.out.size; have := hb4.size; omega)))
  have HOO := Lib.hid hO
  have HLT := Lib.hid (show w0.heap.size ≤ T ∧ T < O ∧ O < W.heap.size from ⟨by have := HB3.out.size; omega, by rw [← hO0]; exact hT4.lt, (Array.getElem?_eq_some_iff.1 hO).1⟩)
  have HT0 := Lib.hid (Tab.start hTW (Kept.refl _ _) (by have := hTW.lt; exact this))
  have HW := Lib.hid (And.intro hW hO0)
  clear hT4 hb4 hT0 hO0 hW hbW hO hTW C3
  go_upto_region 9 with fail
  rw [HW.out.1, HW.out.2]
  clear HW
  go_wp2_with fail
  go_loopw [8] (fun i wr => ∃ k : Nat, i = .int .i64 k ∧ k ≤ na ∧ Hid (Tab W T (notesS ((A.map Ent.r).take k)) k wr)) (fun i _ => na - (RowKit.intOf i).toNat)
  case atStart => exact ⟨0, rfl, Nat.zero_le _, HT0⟩
  case round =>
    obtain ⟨k, rfl, hkn, HI⟩ := hrel
    have hbr : Below w0.heap.size w0 wr := HBW.out.trans (HI.out.kept.below (fun i hi => by have := HLT.out.1; omega) HBW.out.size)
    rcases Nat.lt_or_ge k na with hk | hk
    · have hkz : (k : Int) < (na : Int) := by omega
      have hkx : k < A.length := by rw [HN.out.1]; exact hk
      obtain ⟨e, he⟩ : ∃ e, A.getD k default = e := ⟨_, rfl⟩
      have hin := HRA.out.ent e (by rw [← he]; simp [List.getD, hkx])
      obtain ⟨qb, qo, rfl, -, hce⟩ := rep_cells HRA.out.row hbr hkx
      rw [he] at hce
      have HTK := Lib.hid (notesS_snoc (A.map Ent.r) k (by rw [List.length_map]; exact hkx))
      rw [show (A.map Ent.r).getD k default = e.r by rw [← he]; simp [List.getD, hkx]] at HTK
      obtain ⟨es, er, ep, ek⟩ := e
      have z0 := hce 0 (by decide)
      have z1 := hce 1 (by decide)
      have z2 := hce 2 (by decide)
      have z3 := hce 3 (by decide)
      have z4 := hce 4 (by decide)
      have z5 := hce 5 (by decide)
      have z6 := hce 6 (by decide)
      have z7 := hce 7 (by decide)
      simp only [Ent.list, Nat.add_zero] at z0 z1 z2 z3 z4 z5 z6 z7
      have CN := Lib.hid (note_tab HI.out (by have := HRA.out.len; omega) er ep ek (hin.rs.below hbr) hin.few hin.pc hin.wf)
      unfold repV at CN
      clear hce he hin hbr HI
      go_wp2_with (go_at_call 14; refine CN.out.mono ?_; rintro e w2 ⟨rfl, htab, -⟩; have HQ := Lib.hid htab; clear htab)
      exact ⟨⟨k + 1, by go_num, hk, by rw [HTK.out]; exact HQ⟩, by simp [RowKit.intOf]; omega⟩
    · have hkz : ¬ (k : Int) < (na : Int) := by omega
      have hke : k = na := by omega
      have HT1 := Lib.hid (show Tab W T (notesS (A.map Ent.r)) na wr from by
        have := HI.out
        rw [List.take_of_length_le (by rw [List.length_map, HN.out.1]; omega), hke] at this
        exact this)
      have HBR := Lib.hid hbr
      have HS0 := Lib.hid (show S2 wr w0.heap.size O X 0 (.slice none 0 0) wr from ⟨⟨.slice none 0 0, ⟨(HI.out.kept.block O HLT.out.2.2 (by have := HLT.out.2.1; omega)).trans HOO.out, by have := HLT.out.1; have := HLT.out.2.1; omega, OwnE.nil _ _ _, List.Pairwise.nil⟩, fun g e => by cases e⟩, OwnE.nil _ _ _, Kept.refl _ _⟩)
      have HOA := Lib.hid ((HI.out.kept.block O HLT.out.2.2 (by have := HLT.out.2.1; omega)).trans HOO.out)
      have HOL := Lib.hid (show O < wr.heap.size from by have := HI.out.kept.size; have := HLT.out.2.2; omega)
      clear hbr HI HT0 hke
      go_wp2_with fail
      generalize wr = WA at *
      generalize k = k0 at *
      go_loopw [7, 9] (fun v i wx => ∃ k : Nat, i = .int .i64 k ∧ k ≤ nx ∧ Hid (S2 WA w0.heap.size O X k v wx)) (fun _ i _ => nx - (RowKit.intOf i).toNat)
      case atStart => exact ⟨0, rfl, Nat.zero_le _, HS0⟩
      case round =>
        obtain ⟨j, rfl, hjn, HI⟩ := hrel
        have hbx : Below w0.heap.size w0 wr := HBR.out.trans (HI.out.kept.below (fun i hi => by have := HLT.out; omega) HBR.out.size)
        rcases Nat.lt_or_ge j nx with hj | hj
        · have hjz : (j : Int) < (nx : Int) := by omega
          have hpos : (0 : Int) ≤ (j : Int) := by omega
          have hjx : j < X.length := by rw [HN.out.2]; exact hj
          obtain ⟨e, he⟩ : ∃ e, X.getD j default = e := ⟨_, rfl⟩
          have hmem : e ∈ X := by rw [← he]; simp [List.getD, hjx]
          obtain ⟨qb, qo, rfl, hqb, hce⟩ := rep_cells HRX.out.row hbx hjx
          rw [he] at hce
          have HQB := Lib.hid hqb
          have HCE := Lib.hid hce
          obtain ⟨v, hat, hvg⟩ := HI.out.ref
          have HVG := Lib.hid hvg
          have HAT := Lib.hid hat
          have HES := Lib.hid (HRX.out.arg e hmem).s
          have HTK := Lib.hid (take_snoc hjx he)
          have HNK := Lib.hid (notesE_snoc X j hjx)
          rw [he] at HNK
          have HLJ := Lib.hid (show (X.take j).length = j by rw [List.length_take]; omega)
          have CN := Lib.hid (noteR_any wr w0.heap.size O v _ hat (by have := notesE_len (X.take j); have := HLJ.out; have := HRX.out.len; omega) e.r e.p e.k)
          rw [show (⟨e.r.s, e.r, e.p, e.k⟩ : Ent) = e by
            have := HES.out
            obtain ⟨es, er, ep, ek⟩ := e
            simp only at this ⊢
            rw [this]] at CN
          have HBX := Lib.hid hbx
          obtain ⟨E, hE⟩ : ∃ E, e = E := ⟨_, rfl⟩
          rw [hE] at CN HTK HNK
          obtain ⟨es, er, ep, ek⟩ := e
          obtain rfl : es = er.s := HES.out
          have HHE := Lib.hid hE
          have z0 := hce 0 (by decide)
          have z1 := hce 1 (by decide)
          have z2 := hce 2 (by decide)
          have z3 := hce 3 (by decide)
          have z4 := hce 4 (by decide)
          have z5 := hce 5 (by decide)
          have z6 := hce 6 (by decide)
          have z7 := hce 7 (by decide)
          simp only [Ent.list, Nat.add_zero] at z0 z1 z2 z3 z4 z5 z6 z7
          simp only [← hE] at CN
          unfold repV at CN
          clear hce he hmem hbx hat hvg hE hqb
          go_upto_region 17 with (go_at_call 8; refine CN.out.mono ?_; rintro e w2 ⟨rfl, v2, hat2, hk2, hv2⟩; have HQ2 := Lib.hid (And.intro hat2 (And.intro hk2 hv2)); clear hat2 hk2 hv2)
          have hlown := HI.out.own
          have hbw2 : Below w0.heap.size wr w2 := HQ2.out.2.1.below (fun i hi => by
            rcases hi with rfl | hi
            · have := HLT.out; omega
            · have := (HVG.out i hi).1; have := HBR.out.size; omega) HBX.out.size
          have hl2 : OwnE w2 WA.heap.size 39 u7 (X.take j) := hlown.kept HQ2.out.2.1 (fun g hg hf => by
            rcases hf with rfl | hf
            · have := hlown.lt _ hg; have := HOL.out; omega
            · exact (HVG.out g hf).2 hg)
          have HBX2 := Lib.hid (HBX.out.trans hbw2)
          have HL2 := Lib.hid hl2
          have HL1 := Lib.hid hlown
          have z0' := (hbw2.cell (p := ⟨qb, qo + j * 8, none⟩) HQB.out).trans z0
          have z1' := (hbw2.cell (p := ⟨qb, qo + j * 8 + 1, none⟩) HQB.out).trans z1
          have z2' := (hbw2.cell (p := ⟨qb, qo + j * 8 + 2, none⟩) HQB.out).trans z2
          have z3' := (hbw2.cell (p := ⟨qb, qo + j * 8 + 3, none⟩) HQB.out).trans z3
          have z4' := (hbw2.cell (p := ⟨qb, qo + j * 8 + 4, none⟩) HQB.out).trans z4
          have z5' := (hbw2.cell (p := ⟨qb, qo + j * 8 + 5, none⟩) HQB.out).trans z5
          have z6' := (hbw2.cell (p := ⟨qb, qo + j * 8 + 6, none⟩) HQB.out).trans z6
          have z7' := (hbw2.cell (p := ⟨qb, qo + j * 8 + 7, none⟩) HQB.out).trans z7
          have HON := Lib.hid (show ∀ w3 : World, RowE (w3.alloc (.cells #[.int .i64 er.s, .int .i64 er.c, .int .i64 er.s, .int .i64 er.e, .bool er.fd, .string (strB er.v), .slice ep er.ls.length ek, .string (strB er.nx), .bool er.mr] 39)) (some ⟨w3.heap.size, 0, none⟩) [E] from fun w3 => HHE.out ▸ one_ent (e := ⟨er.s, er, ep, ek⟩) (new_block _ _ _))
          have HWS := Lib.hid (show WA.heap.size ≤ w2.heap.size from by have := HI.out.kept.size; have := HQ2.out.2.1.size; omega)
          clear z0 z1 z2 z3 z4 z5 z6 z7 hlown hbw2 hl2
          obtain ⟨yc, yrs, ye, yf, yv, yls, yn, ym⟩ := er
          simp only at z0' z1' z2' z3' z4' z5' z6' z7' HON HHE
          generalize strB yv = sv at z4' HON
          generalize strB yn = sx at z6' HON
          generalize yls.length = m at z5' HON
          go_region_law (refine step_app_ents ent_ref rfl _ _ rfl (by simp [Act.eval]) (HL2.out.drewN 1 |>.alloc _) (some ⟨w2.heap.size, 0, none⟩) 1 [E] (by simp [Act.eval]) (HON.out w2.drew) (fun h => by cases h) (by have := HLJ.out; have := HRX.out.len; simp only [List.length_cons, List.length_nil]; omega) (by have := HWS.out; simp; omega) ?_; intro v4 w4 hown4 hgrow4 hat4)
          all_goals
            have hal : Below w2.heap.size w2 (w2.drew.alloc (.cells #[.int .i64 yrs, .int .i64 yc, .int .i64 yrs, .int .i64 ye, .bool yf, .string sv, .slice ep m ek, .string sx, .bool ym] 39)) := (Below.refl _ _).drew.alloc (Nat.le_refl _) _
            have hkg := Kept.grown (F := fun i => u7.ownBlock = some i) hgrow4 (fun g hg => hg)
            have hk24 : Kept (fun i => u7.ownBlock = some i) w2 w4 := (Kept.of_below hal (F := fun i => u7.ownBlock = some i)).trans hkg fun _ _ e => e
            have hHQ := Lib.hid (show S2 WA w0.heap.size O X (j + 1) v4 w4 from ⟨⟨v2, by
                rw [HNK.out, ← HHE.out]
                refine HQ2.out.1.kept hk24 fun i hi hf => ?_
                rcases hi with rfl | hi
                · have := HL1.out.lt _ hf; have := HOL.out; omega
                · rcases HQ2.out.2.2 with h | h
                  · exact (HVG.out i (by rw [← h]; exact hi)).2 hf
                  · have := h i hi; have := (HL1.out.ltB i hf).2; omega, fun g hg => by
                refine ⟨?_, fun hf => ?_⟩
                · rcases HQ2.out.2.2 with h | h
                  · exact (HVG.out g (by rw [← h]; exact hg)).1
                  · have := h g hg; have := HI.out.kept.size; omega
                · rcases hat4 with h4 | h4
                  · rcases HQ2.out.2.2 with h | h
                    · exact (HVG.out g (by rw [← h]; exact hg)).2 (by rw [← h4]; exact hf)
                    · have := h g hg; have := (HL1.out.ltB g (by rw [← h4]; exact hf)).2; omega
                  · rw [h4] at hf
                    injection hf with hf
                    have := (HQ2.out.1.own.ltB g hg).2
                    simp at hf
                    omega⟩, by rw [HTK.out]; exact hown4, by
                refine (HI.out.kept.trans HQ2.out.2.1 fun i hi e => ?_).trans hk24 fun i hi e => ?_
                · rcases e with rfl | e
                  · rfl
                  · have := (HVG.out i e).1; omega
                · have := HL1.out.lt i e; omega⟩)
            clear z0' z1' z2' z3' z4' z5' z6' z7' hown4 hgrow4 hat4 hal hkg hk24
            go_wp2_with fail
            exact ⟨⟨j + 1, by go_num, hj, hHQ⟩, by simp [RowKit.intOf]; omega⟩
        · have hjz : ¬ (j : Int) < (nx : Int) := by omega
          obtain ⟨v, hat, hvg⟩ := HI.out.ref
          have hlx := HI.out.own
          rw [List.take_of_length_le (by rw [HN.out.2]; omega)] at hat hlx
          obtain ⟨lp, lc, rfl, -, hlpc, hlrow, -⟩ := hlx.row
          obtain ⟨mb, L1, hT1, -, -, hmb⟩ := HT1.out.at_
          have hTr : TabAt wr T mb L1 := hT1.keepOff HI.out.kept (by have := HLT.out; omega) (fun b hb hf => by
            obtain ⟨es, clock, ho⟩ : ∃ es clock, WA.heap[b]? = some (.map es clock) := by
              rcases hT1.m with ⟨h, _⟩ | ⟨b', hb', h⟩
              · rw [h] at hb; cases hb
              · rw [hb'] at hb; injection hb with hb; subst hb; exact h.obj
            rw [hf, HOA.out] at ho; cases ho) (fun i hi o st hc => by
            subst hi
            simp only [World.cell?, HOA.out] at hc
            cases o with
            | zero => simp at hc
            | succ o => simp at hc)
          have HBX := Lib.hid hbx
          have HAT := Lib.hid hat
          have HVG := Lib.hid (show ∀ g, v.ownBlock = some g → WA.heap.size ≤ g from fun g hg => (hvg g hg).1)
          have HTR := Lib.hid hTr
          have HTA := Lib.hid (show T < WA.heap.size from hT1.lt)
          have HWS := Lib.hid HI.out.kept.size
          have C5 := Lib.hid (made_any wr X lp lc hlrow (by have := HRX.out.len; omega))
          rw [HN.out.2] at C5 ⊢
          clear hbx hat hvg hlx hlpc hlrow hT1 hmb hTr HI HS0
          go_wp2_with fail
          refine C5.out.mono ?_
          rintro e w5 ⟨v5, rfl, ho5, hb5⟩
          obtain ⟨p5, c5, rfl, -, -, hr5, -⟩ := ho5.row
          have hT5 := HTR.out.below hb5
          have C6 := Lib.hid (set_any w5 T mb L1 hT5 X p5 c5 hr5 ((HRX.out.ent).below (HBX.out.trans (hb5.mono HBX.out.size))) (by have := HRX.out.len; omega))
          have HAT5 := Lib.hid (HAT.out.below hb5)
          have HTR5 := Lib.hid hT5
          have HB5 := Lib.hid (HBX.out.trans (hb5.mono HBX.out.size))
          have HW5 := Lib.hid (show T < w5.heap.size ∧ WA.heap.size ≤ w5.heap.size from ⟨hT5.lt, by have := hb5.size; have := HWS.out; omega⟩)
          rw [HN.out.2] at C6 ⊢
          clear ho5 hb5 hr5 hT5 C5
          go_wp2_with fail
          refine C6.out.mono ?_
          rintro e w6 ⟨rfl, W', htab, hw56, hk56⟩
          have hat6 := HAT5.out.kept hk56 (fun i hi hf => by
            rcases hi with rfl | hi
            · have := HLT.out; omega
            · have := HVG.out i hi; have := HTA.out; omega)
          have HEX := Lib.hid (show EntsIn w6 (notesE X) from (HRX.out.notes HB5.out).kept hk56 fun i hi => hi ▸ (HTR5.out).noText)
          obtain ⟨rp, rd, rfl, -, -, hrr, -⟩ := hat6.own.row
          obtain ⟨m, hm⟩ : ∃ m, (notesE X).length = m := ⟨_, rfl⟩
          have hob6 := hat6.c
          rw [hm] at hob6
          have HM := Lib.hid (And.intro hm (show (notesE X).length ≤ 101 from by have := notesE_len X; have := HRX.out.len; omega))
          have HSM := Lib.hid (show semL (notesE X) = notesS (X.map Ent.r) from notesE_sem X fun e he => (HRX.out.arg e he).s)
          have HR6 := Lib.hid hrr
          have HO6 := Lib.hid (And.intro hob6 (Array.getElem?_eq_some_iff.1 hob6).1)
          have HTB := Lib.hid htab
          have HB6 := Lib.hid (HB5.out.trans (hk56.below (fun i hi => by have := HLT.out; omega) HB5.out.size))
          have mx := mixedOn
          clear hat6 hk56 hm hrr hob6 htab hw56 C6
          go_wp2_with fail
          refine wp_region_mono mx (by kernel_rfl) [VP.eq (.pointer (some ⟨T, 0, none⟩)), vpE w6.heap.size 51 (notesS (X.map Ent.r)), vpE w6.heap.size 39 (notesS (X.map Ent.r)), VP.eq (.pointer (some ⟨O, 0, none⟩)), VP.eq (.pointer (some ⟨O, 0, none⟩)), VP.eq (.pointer (some ⟨O, 0, none⟩)), VP.eq (.slice rp m rd), VP.eq (.bool true), VP.eq (.bool true)] ?_ ?_
          · intro i o L vals w' hi hL hdep hC hJ hV
            have hlt : i < 9 := by have := (List.getElem?_eq_some_iff.1 hi).1; simpa using this
            generalize hA : frA _ _ L vals = a'
            have hT5 : a'.tmps.getD 5 undef = .pointer (some ⟨T, 0, none⟩) := by rw [← hA, frA_base (by kernel_rfl)]; rfl
            have hT6 : a'.tmps.getD 6 undef = .pointer (some ⟨O, 0, none⟩) := by rw [← hA, frA_base (by kernel_rfl)]; rfl
            have hD := Lib.hid (fun k t (hk : L k = true) (ht : dstOf _ k = some t) => hA ▸ frA_done (by kernel_rfl) (vals := vals) hk ht)
            clear hA
            have hox := (hJ.block O HO6.out.2).trans HO6.out.1
            have c0 := cell_at hox 0
            obtain rfl | rfl | rfl | rfl | rfl | rfl | rfl | rfl | rfl : i = 0 ∨ i = 1 ∨ i = 2 ∨ i = 3 ∨ i = 4 ∨ i = 5 ∨ i = 6 ∨ i = 7 ∨ i = 8 := by omega
            all_goals
              injection hi with hi
              subst hi
              try simp [Region.binds] at hdep
            · exact step_run rfl (v := .pointer (some ⟨T, 0, none⟩)) (w' := w') (by go_simp) ⟨rfl, Below.refl _ _⟩
            · have d66 := hD.out 0 66 (by simp [hdep]) rfl
              rw [show vals 0 = .pointer (some ⟨T, 0, none⟩) from hV 0 (by simp [hdep])] at d66
              refine step_enter rfl (w' := w') (by go_simp) ((all_tab (HTB.out.below hJ) (by have := HRX.out.len; have := HN.out; omega)).mono ?_)
              rintro e x ⟨v, L, rfl, h1, h2, h3, h4, h5⟩
              exact ⟨_, rfl, ⟨L, h1.mono hJ.size, h2, h3⟩, h5⟩
            · have d67 := hD.out 1 67 (by simp [hdep]) rfl
              obtain ⟨L, h1, h2, h3⟩ := hV 1 (by simp [hdep])
              obtain ⟨lp, lc, hlv, -, -, hlr, -⟩ := h1.row
              rw [hlv] at d67
              have hll : L.length ≤ 2000 := by
                have := sem_length (h2.trans HSM.out.symm)
                have := HM.out.2
                omega
              refine step_enter rfl (w' := w') (by go_simp) ((back_any w' L lp lc hlr hll).mono ?_)
              rintro e x ⟨v, rfl, h4, h5⟩
              exact ⟨_, rfl, ⟨L, h4.mono hJ.size, h2, h3.below h5⟩, h5⟩
            · exact step_run rfl (v := .pointer (some ⟨O, 0, none⟩)) (w' := w') (by go_simp) ⟨rfl, Below.refl _ _⟩
            · have d69 := hD.out 3 69 (by simp [hdep]) rfl
              rw [show vals 3 = .pointer (some ⟨O, 0, none⟩) from hV 3 (by simp [hdep])] at d69
              exact step_run rfl (v := .pointer (some ⟨O, 0, none⟩)) (w' := w') (by go_simp) ⟨rfl, Below.refl _ _⟩
            · have d70 := hD.out 4 70 (by simp [hdep]) rfl
              rw [show vals 4 = .pointer (some ⟨O, 0, none⟩) from hV 4 (by simp [hdep])] at d70
              exact step_run rfl (v := .pointer (some ⟨O, 0, none⟩)) (w' := w') (by go_simp) ⟨rfl, Below.refl _ _⟩
            · have d71 := hD.out 5 71 (by simp [hdep]) rfl
              rw [show vals 5 = .pointer (some ⟨O, 0, none⟩) from hV 5 (by simp [hdep])] at d71
              exact step_run rfl (v := .slice rp m rd) (w' := w') (by go_simp) ⟨rfl, Below.refl _ _⟩
            · have d68 := hD.out 2 68 (by simp [hdep]) rfl
              have d72 := hD.out 6 72 (by simp [hdep]) rfl
              rw [show vals 6 = .slice rp m rd from hV 6 (by simp [hdep])] at d72
              obtain ⟨L, h1, h2, h3⟩ := hV 2 (by simp [hdep])
              obtain ⟨lp, lc, hlv, -, -, hlr, -⟩ := h1.row
              rw [hlv] at d68
              have hll : L.length ≤ 2000 := by
                have := sem_length (h2.trans HSM.out.symm)
                have := HM.out.2
                omega
              have CS := sameE_any w' L (notesE X) lp rp lc rd hlr (HR6.out.below hJ) h3 (HEX.out.below hJ) hll (by have := HM.out.2; omega)
              rw [HM.out.1] at CS
              refine step_enter rfl (w' := w') (by go_simp) (CS.mono ?_)
              rintro e x ⟨B, rfl, hB, h5⟩
              have : B = true := hB.2 (h2.trans HSM.out.symm)
              subst this
              exact ⟨_, rfl, rfl, h5⟩
            · have d73 := hD.out 7 73 (by simp [hdep]) rfl
              rw [show vals 7 = .bool true from hV 7 (by simp [hdep])] at d73
              exact step_run rfl (v := .bool true) (w' := w') (by go_simp) ⟨rfl, Below.refl _ _⟩
          · intro vals w' hJ hV
            have e0 : vals 0 = .pointer (some ⟨T, 0, none⟩) := hV 0 (by decide)
            have q1 := hV 1 (by decide)
            have q2 := hV 2 (by decide)
            have e3 : vals 3 = .pointer (some ⟨O, 0, none⟩) := hV 3 (by decide)
            have e4 : vals 4 = .pointer (some ⟨O, 0, none⟩) := hV 4 (by decide)
            have e5 : vals 5 = .pointer (some ⟨O, 0, none⟩) := hV 5 (by decide)
            have e6 : vals 6 = .slice rp m rd := hV 6 (by decide)
            have e7 : vals 7 = .bool true := hV 7 (by decide)
            have e8 : vals 8 = .bool true := hV 8 (by decide)
            simp only [putsL, Act.put, List.setIfInBounds_toArray, List.set_cons_zero, List.set_cons_succ, e0, e3, e4, e5, e6, e7, e8]
            clear e0 e3 e4 e5 e6 e7 e8
            have HBx := Lib.hid (HB6.out.trans (hJ.mono HB6.out.size))
            clear hJ hV q1 q2
            generalize vals 1 = v1 at *
            generalize vals 2 = v2 at *
            go_wp2_with fail
            go_ret
            exact ⟨rfl, HBx.out⟩
end Go.Proofs.Ytjlkfoaccllflaa
