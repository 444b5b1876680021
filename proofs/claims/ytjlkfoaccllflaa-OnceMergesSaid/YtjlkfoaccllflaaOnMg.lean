/-
  Layer once: OnceMerges.
-/
import Derived.Test.YtjlkfoaccllflaaOnSets
import Derived.Test.YtjlkfoaccllflaaOnMerge
namespace Go.Proofs.Ytjlkfoaccllflaa
open Go.RowKit Go.Gz

/-- a row of these very entries. -/
def vpX (B : Nat) (t : TypeId) (L : List Ent) : VP := ⟨fun v w => OwnE w B t v L, fun _ _ _ h hb => h.below hb⟩
theorem foldl_sem : ∀ (X : List Ent) (S : List (Int × RepL)), (X.map Ent.r).foldl noteS S = (semL X).foldl (fun L x => noteS L x.2) S
  | [], _ => rfl
  | _ :: t, _ => foldl_sem t _
/-- what is noted of noted ones is what they are merged. -/
theorem want_sem {X Y : List Ent} (hX : ∀ e ∈ X, Fine e) (hY : ∀ e ∈ Y, Fine e) : semL (notesE (X ++ Y)) = (semL X ++ semL Y).foldl mergeS [] := by
  have hf : ∀ e ∈ X ++ Y, Fine e := fun e he => by
    rcases List.mem_append.1 he with he | he
    · exact hX e he
    · exact hY e he
  rw [notesE_sem _ fun e he => (hf e he).1]
  unfold notesS
  rw [foldl_sem, notes_merges _ (fun x hx => by
    obtain ⟨e, he, rfl⟩ := List.mem_map.1 hx
    exact hf e he)]
  simp [semL]
theorem once_ord (X : List Ent) : OrdK sk (semL (notesE X)) := ord_sem.2 (notesE_ord X)
theorem self_sem (X : List Ent) : (semL (notesE X) ++ semL (notesE X)).foldl mergeS [] = semL (notesE X) := merges_twice _ (once_ord X)
theorem none_sem (X : List Ent) : (semL [] ++ semL (notesE X)).foldl mergeS [] = semL (notesE X) := by
  show (semL (notesE X)).foldl mergeS [] = _
  have := merges_ord (semL (notesE X)) [] (by simpa using once_ord X)
  simpa using this
theorem mergesS_len : ∀ (X S : List (Int × RepL)), (X.foldl mergeS S).length ≤ S.length + X.length
  | [], _ => by simp
  | x :: t, S => by
    have h1 := mergesS_len t (mergeS S x)
    have h2 : (mergeS S x).length ≤ S.length + 1 := by
      have h3 : ∀ b : Bool, (if b = true then putK sk x S else S).length ≤ S.length + 1 := fun b => by
        cases b
        · simp
        · exact length_putK
      exact h3 _
    rw [List.foldl_cons, List.length_cons]
    omega
theorem two_len {X Y L : List Ent} (h : semL L = (semL X ++ semL Y).foldl mergeS []) : L.length ≤ X.length + Y.length := by
  have h0 : L.length = ((semL X ++ semL Y).foldl mergeS []).length := by rw [← h]; simp [semL]
  have h9 := mergesS_len (semL X ++ semL Y) []
  have h8 : (semL X ++ semL Y).length = X.length + Y.length := by simp [semL]
  rw [h8, List.length_nil] at h9
  omega
theorem notes_app_snoc (P X : List Ent) (k : Nat) (h : k < X.length) : notesE (P ++ X.take (k + 1)) = noteE (notesE (P ++ X.take k)) (X.getD k default) := by
  rw [List.take_succ_eq_append_getElem h]
  unfold notesE
  rw [← List.append_assoc, List.foldl_append]
  simp [List.getD, h]

set_option maxHeartbeats 16000000 in
set_option maxRecDepth 1000000 in
theorem merges_walk (w0 : World) (A X : List Ent) (pa pb : Option Addr) (ca cb : Nat) (ha : RowP w0 pa A) (hx : RowP w0 pb X) (hA : ∀ e ∈ A, ArgIn w0 e) (hX : ∀ e ∈ X, ArgIn w0 e) (la : A.length ≤ 9223372036854775807) (lx : X.length ≤ 9223372036854775807) :
    Calls Try.prog 3 #[.slice pa A.length ca, .slice pb X.length cb] w0 fun e w' => e = .returned (.bool true) ∧ Below w0.heap.size w0 w' := by
  have CA := Lib.hid (awakeOn_yes w0)
  have HA := Lib.hid (And.intro (And.intro ha hA) la)
  have HX := Lib.hid (And.intro (And.intro hx hX) lx)
  obtain ⟨na, hna⟩ : ∃ n, A.length = n := ⟨_, rfl⟩
  obtain ⟨nx, hnx⟩ : ∃ n, X.length = n := ⟨_, rfl⟩
  have HN := Lib.hid (And.intro hna hnx)
  rw [hna, hnx]
  have hnab : (na : Int) ≤ 9223372036854775807 := by omega
  have hnxb : (nx : Int) ≤ 9223372036854775807 := by omega
  clear ha hx hA hX la lx hna hnx
  go_enter Try.func3, Try.ntmps3
  go_wp2_with fail
  refine CA.out.mono ?_
  rintro e w1 ⟨rfl, hb1⟩
  have HB1 := Lib.hid hb1
  have C1 := Lib.hid (smallL_any w1 A pa ca (HA.out.1.1.below hb1) (fun e he => by
    have h := HA.out.1.2 e he
    exact ⟨h.rs.below hb1, h.lo, h.pc, h.wf, h.s⟩) HA.out.2)
  rw [HN.out.1] at C1
  clear hb1 CA
  go_wp2_with fail
  refine C1.out.mono ?_
  rintro e w2 ⟨b1, rfl, hs1, hb2⟩
  have HB2 := Lib.hid (HB1.out.trans (hb2.mono HB1.out.size))
  have HS1 := Lib.hid hs1
  clear hb2 hs1 C1
  cases b1 with
  | false =>
    go_wp2_with fail
    go_ret
    exact ⟨rfl, HB2.out⟩
  | true =>
  have C2 := Lib.hid (smallL_any w2 X pb cb (HX.out.1.1.below HB2.out) (fun e he => by
    have h := HX.out.1.2 e he
    exact ⟨h.rs.below HB2.out, h.lo, h.pc, h.wf, h.s⟩) HX.out.2)
  rw [HN.out.2] at C2
  go_wp2_with fail
  refine C2.out.mono ?_
  rintro e w3 ⟨b2, rfl, hs2, hb3⟩
  have HB3 := Lib.hid (HB2.out.trans (hb3.mono HB2.out.size))
  have HS2 := Lib.hid hs2
  clear hb3 hs2 C2
  cases b2 with
  | false =>
    go_wp2_with fail
    go_ret
    exact ⟨rfl, HB3.out⟩
  | true =>
  have HRA := Lib.hid (show ArgRow w0 pa A from ⟨HA.out.1.1, HA.out.1.2, (HS1.out (by first | rfl | trivial)).2, (HS1.out (by first | rfl | trivial)).1⟩)
  have HRX := Lib.hid (show ArgRow w0 pb X from ⟨HX.out.1.1, HX.out.1.2, (HS2.out (by first | rfl | trivial)).2, (HS2.out (by first | rfl | trivial)).1⟩)
  clear HA HX HS1 HS2 hnab hnxb
  have hnab : (na : Int) ≤ 101 := by have := HRA.out.len; have := HN.out.1; omega
  have hnxb : (nx : Int) ≤ 101 := by have := HRX.out.len; have := HN.out.2; omega
  obtain ⟨Ox, hOx⟩ : ∃ O, w3.heap.size = O := ⟨_, rfl⟩
  obtain ⟨W, hW⟩ : ∃ W, (w3.alloc (.cells #[.slice none 0 0] 28)).alloc (.cells #[.slice none 0 0] 28) = W := ⟨_, rfl⟩
  have hblk := two_blocks (w := w3) (wr := W) (c1 := #[.slice none 0 0]) (c2 := #[.slice none 0 0]) (t1 := 28) (t2 := 28) (by rw [hW]; exact Below.refl _ _)
  have hz : W.heap.size = Ox + 2 := by rw [← hW, ← hOx]; simp
  have hbW : Below w0.heap.size w0 W := by
    rw [← hW]
    exact (HB3.out.alloc HB3.out.size _).alloc (by have := HB3.out.size; simp; omega) _
  rw [hOx] at hblk
  have HBW := Lib.hid hbW
  have HOX := Lib.hid hblk.1
  have HOY := Lib.hid hblk.2
  have HLT := Lib.hid (show w0.heap.size ≤ Ox ∧ W.heap.size = Ox + 2 from ⟨by rw [← hOx]; exact HB3.out.size, hz⟩)
  have HW := Lib.hid (And.intro hW hOx)
  have HX0 := Lib.hid (OnRun.start (B := w0.heap.size) hblk.1 HLT.out.1)
  clear hOx hW hbW hblk hz
  go_upto_region 6 with fail
  rw [HW.out.1, HW.out.2]
  clear HW
  go_wp2_with fail
  go_loopw [7] (fun i wr => ∃ k : Nat, i = .int .i64 k ∧ k ≤ na ∧ Hid (OnRun W w0.heap.size Ox (notesE (A.take k)) wr)) (fun i _ => na - (RowKit.intOf i).toNat)
  case atStart => exact ⟨0, rfl, Nat.zero_le _, HX0⟩
  case round =>
    obtain ⟨k, rfl, hkn, HI⟩ := hrel
    have hbr : Below w0.heap.size w0 wr := HBW.out.trans (HI.out.kept.below (fun i hi => by have := HLT.out.1; omega) HBW.out.size)
    rcases Nat.lt_or_ge k na with hk | hk
    · have hkz : (k : Int) < (na : Int) := by omega
      have hkx : k < A.length := by rw [HN.out.1]; exact hk
      obtain ⟨e, he⟩ : ∃ e, A.getD k default = e := ⟨_, rfl⟩
      have hmem : e ∈ A := by rw [← he]; simp [List.getD, hkx]
      obtain ⟨qb, qo, rfl, -, hce⟩ := rep_cells HRA.out.row hbr hkx
      rw [he] at hce
      have CN := Lib.hid (note_run HI.out (by have := notesE_len (A.take k); rw [List.length_take] at this; have := HRA.out.len; omega) e (HRA.out.arg e hmem).s)
      have HNK := Lib.hid (notesE_snoc A k hkx)
      rw [he] at HNK
      unfold repV at CN
      have z0 := hce 0 (by decide)
      have z1 := hce 1 (by decide)
      have z2 := hce 2 (by decide)
      have z3 := hce 3 (by decide)
      have z4 := hce 4 (by decide)
      have z5 := hce 5 (by decide)
      have z6 := hce 6 (by decide)
      have z7 := hce 7 (by decide)
      simp only [Ent.list, Nat.add_zero] at z0 z1 z2 z3 z4 z5 z6 z7
      clear hce he hmem hbr HI
      go_wp2_with (go_at_call 8; refine CN.out.mono ?_; rintro e' w5 ⟨rfl, hrun, -⟩; have HQ := Lib.hid hrun; clear hrun)
      exact ⟨⟨k + 1, by go_num, hk, by rw [HNK.out]; exact HQ⟩, by simp [RowKit.intOf]; omega⟩
    · have hkz : ¬ (k : Int) < (na : Int) := by omega
      have hke : k = na := by omega
      have HRX1 := Lib.hid (show OnRun W w0.heap.size Ox (notesE A) wr from by
        have := HI.out
        rwa [List.take_of_length_le (by rw [HN.out.1]; omega)] at this)
      have hoy := (HI.out.kept.block (Ox + 1) (by have := HLT.out.2; omega) (by omega)).trans HOY.out
      have HY0 := Lib.hid (OnRun.start (B := w0.heap.size) hoy (by have := HLT.out.1; omega))
      have HBA := Lib.hid hbr
      have HWA := Lib.hid HI.out.kept.size
      clear hbr HI HX0 hoy hke HBW HOX HOY
      go_wp2_with fail
      generalize wr = WA at *
      generalize k = k1 at *
      go_loopw [8] (fun i wr => ∃ k : Nat, i = .int .i64 k ∧ k ≤ nx ∧ Hid (OnRun WA w0.heap.size (Ox + 1) (notesE (X.take k)) wr)) (fun i _ => nx - (RowKit.intOf i).toNat)
      case atStart => exact ⟨0, rfl, Nat.zero_le _, HY0⟩
      case round =>
        obtain ⟨k, rfl, hkn, HI⟩ := hrel
        have hbr : Below w0.heap.size w0 wr := HBA.out.trans (HI.out.kept.below (fun i hi => by have := HLT.out.1; omega) HBA.out.size)
        rcases Nat.lt_or_ge k nx with hk | hk
        · have hkz : (k : Int) < (nx : Int) := by omega
          have hkx : k < X.length := by rw [HN.out.2]; exact hk
          obtain ⟨e, he⟩ : ∃ e, X.getD k default = e := ⟨_, rfl⟩
          have hmem : e ∈ X := by rw [← he]; simp [List.getD, hkx]
          obtain ⟨qb, qo, rfl, -, hce⟩ := rep_cells HRX.out.row hbr hkx
          rw [he] at hce
          have CN := Lib.hid (note_run HI.out (by have := notesE_len (X.take k); rw [List.length_take] at this; have := HRX.out.len; omega) e (HRX.out.arg e hmem).s)
          have HNK := Lib.hid (notesE_snoc X k hkx)
          rw [he] at HNK
          unfold repV at CN
          have z0 := hce 0 (by decide)
          have z1 := hce 1 (by decide)
          have z2 := hce 2 (by decide)
          have z3 := hce 3 (by decide)
          have z4 := hce 4 (by decide)
          have z5 := hce 5 (by decide)
          have z6 := hce 6 (by decide)
          have z7 := hce 7 (by decide)
          simp only [Ent.list, Nat.add_zero] at z0 z1 z2 z3 z4 z5 z6 z7
          clear hce he hmem hbr HI
          go_wp2_with (go_at_call 8; refine CN.out.mono ?_; rintro e' w5 ⟨rfl, hrun, -⟩; have HQ := Lib.hid hrun; clear hrun)
          exact ⟨⟨k + 1, by go_num, hk, by rw [HNK.out]; exact HQ⟩, by simp [RowKit.intOf]; omega⟩
        · have hkz : ¬ (k : Int) < (nx : Int) := by omega
          obtain ⟨vx, hax, hgx⟩ := HRX1.out.at_
          obtain ⟨vy, hay, hgy⟩ := HI.out.at_
          rw [List.take_of_length_le (by rw [HN.out.2]; omega)] at hay
          have hax2 := hax.kept HI.out.kept (fun i hi hf => by
            rcases hi with rfl | hi
            · omega
            · have := hgx i hi; have := HLT.out.2; omega)
          obtain ⟨xp, xd, rfl, -, hxn, hxr, -⟩ := hax2.own.row
          obtain ⟨yp, yd, rfl, -, hyn, hyr, -⟩ := hay.own.row
          obtain ⟨NA, hNA⟩ : ∃ N, notesE A = N := ⟨_, rfl⟩
          obtain ⟨NB, hNB⟩ : ∃ N, notesE X = N := ⟨_, rfl⟩
          have HEA := Lib.hid (HRA.out.notes hbr)
          have HEB := Lib.hid (HRX.out.notes hbr)
          have HFA := Lib.hid HRA.out.fine
          have HFB := Lib.hid HRX.out.fine
          have HLA := Lib.hid (show (notesE A).length ≤ 101 from by have := notesE_len A; have := HRA.out.len; omega)
          have HLB := Lib.hid (show (notesE X).length ≤ 101 from by have := notesE_len X; have := HRX.out.len; omega)
          have HSS := Lib.hid (And.intro (self_sem A) (none_sem A))
          rw [hNA] at hax2 hxr HEA HFA HLA HSS
          rw [hNB] at hay hyr HEB HFB HLB
          obtain ⟨mA, hmA⟩ : ∃ m, NA.length = m := ⟨_, rfl⟩
          obtain ⟨mB, hmB⟩ : ∃ m, NB.length = m := ⟨_, rfl⟩
          have hcx := hax2.c
          have hcy := hay.c
          rw [hmA] at hcx
          rw [hmB] at hcy
          have HMA := Lib.hid (And.intro hmA hmB)
          have hmAb : (mA : Int) ≤ 101 := by have := HLA.out; omega
          have hmBb : (mB : Int) ≤ 101 := by have := HLB.out; omega
          have HXR := Lib.hid (And.intro hxr hyr)
          have HXN := Lib.hid (And.intro hxn hyn)
          have HOX := Lib.hid (And.intro hcx (Array.getElem?_eq_some_iff.1 hcx).1)
          have HOY := Lib.hid (And.intro hcy (Array.getElem?_eq_some_iff.1 hcy).1)
          have HAX := Lib.hid hax2
          have HAY := Lib.hid hay
          have HWB := Lib.hid hbr
          have mx := mixedOn
          clear hax hgx hgy hax2 hay hxr hyr hcx hcy hbr HI hxn hyn hNA hNB hmA hmB HRX1 HY0
          go_wp2_with fail
          generalize wr = WB at *
          generalize k = k2 at *
          refine wp_region_mono mx (by kernel_rfl) [VP.eq (.pointer (some ⟨Ox, 0, none⟩)), VP.eq (.pointer (some ⟨Ox, 0, none⟩)), VP.eq (.pointer (some ⟨Ox, 0, none⟩)), VP.eq (.slice xp mA xd), vpX WB.heap.size 51 NA, VP.eq (.pointer (some ⟨(Ox + 1), 0, none⟩)), VP.eq (.pointer (some ⟨(Ox + 1), 0, none⟩)), VP.eq (.pointer (some ⟨(Ox + 1), 0, none⟩)), VP.eq (.slice yp mB yd), vpX WB.heap.size 51 NB, vpE WB.heap.size 51 ((semL NA ++ semL NB).foldl mergeS []), vpE WB.heap.size 39 ((semL NA ++ semL NB).foldl mergeS []), vpE WB.heap.size 39 ((semL NA ++ semL NB).foldl mergeS [])] ?_ ?_
          · intro i o L vals w' hi hL hdep hC hJ hV
            have hlt : i < 13 := by have := (List.getElem?_eq_some_iff.1 hi).1; simpa using this
            generalize hA : frA _ _ L vals = a'
            have hT5 : a'.tmps.getD 5 undef = .pointer (some ⟨Ox, 0, none⟩) := by rw [← hA, frA_base (by kernel_rfl)]; rfl
            have hT6 : a'.tmps.getD 6 undef = .pointer (some ⟨(Ox + 1), 0, none⟩) := by rw [← hA, frA_base (by kernel_rfl)]; rfl
            have hD := Lib.hid (fun k t (hk : L k = true) (ht : dstOf _ k = some t) => hA ▸ frA_done (by kernel_rfl) (vals := vals) hk ht)
            clear hA
            have hox := cell_at ((hJ.block Ox HOX.out.2).trans HOX.out.1) 0
            have hoy := cell_at ((hJ.block (Ox + 1) HOY.out.2).trans HOY.out.1) 0
            obtain rfl | rfl | rfl | rfl | rfl | rfl | rfl | rfl | rfl | rfl | rfl | rfl | rfl : i = 0 ∨ i = 1 ∨ i = 2 ∨ i = 3 ∨ i = 4 ∨ i = 5 ∨ i = 6 ∨ i = 7 ∨ i = 8 ∨ i = 9 ∨ i = 10 ∨ i = 11 ∨ i = 12 := by omega
            all_goals
              injection hi with hi
              subst hi
              try simp [Region.binds] at hdep
            · exact step_run rfl (v := .pointer (some ⟨Ox, 0, none⟩)) (w' := w') (by go_simp) ⟨rfl, Below.refl _ _⟩
            · have d51 := hD.out 0 51 (by simp [hdep]) rfl
              rw [show vals 0 = .pointer (some ⟨Ox, 0, none⟩) from hV 0 (by simp [hdep])] at d51
              exact step_run rfl (v := .pointer (some ⟨Ox, 0, none⟩)) (w' := w') (by go_simp) ⟨rfl, Below.refl _ _⟩
            · have d52 := hD.out 1 52 (by simp [hdep]) rfl
              rw [show vals 1 = .pointer (some ⟨Ox, 0, none⟩) from hV 1 (by simp [hdep])] at d52
              exact step_run rfl (v := .pointer (some ⟨Ox, 0, none⟩)) (w' := w') (by go_simp) ⟨rfl, Below.refl _ _⟩
            · have d53 := hD.out 2 53 (by simp [hdep]) rfl
              rw [show vals 2 = .pointer (some ⟨Ox, 0, none⟩) from hV 2 (by simp [hdep])] at d53
              exact step_run rfl (v := .slice xp mA xd) (w' := w') (by go_simp) ⟨rfl, Below.refl _ _⟩
            · have d54 := hD.out 3 54 (by simp [hdep]) rfl
              rw [show vals 3 = .slice xp mA xd from hV 3 (by simp [hdep])] at d54
              have CM := made_any w' NA xp xd (HXR.out.1.below hJ) (by have := HLA.out; omega)
              rw [HMA.out.1] at CM
              refine step_enter rfl (w' := w') (by go_simp) (CM.mono ?_)
              rintro e x ⟨v, rfl, h1, h2⟩
              exact ⟨_, rfl, h1.mono hJ.size, h2⟩
            · exact step_run rfl (v := .pointer (some ⟨(Ox + 1), 0, none⟩)) (w' := w') (by go_simp) ⟨rfl, Below.refl _ _⟩
            · have d56 := hD.out 5 56 (by simp [hdep]) rfl
              rw [show vals 5 = .pointer (some ⟨(Ox + 1), 0, none⟩) from hV 5 (by simp [hdep])] at d56
              exact step_run rfl (v := .pointer (some ⟨(Ox + 1), 0, none⟩)) (w' := w') (by go_simp) ⟨rfl, Below.refl _ _⟩
            · have d57 := hD.out 6 57 (by simp [hdep]) rfl
              rw [show vals 6 = .pointer (some ⟨(Ox + 1), 0, none⟩) from hV 6 (by simp [hdep])] at d57
              exact step_run rfl (v := .pointer (some ⟨(Ox + 1), 0, none⟩)) (w' := w') (by go_simp) ⟨rfl, Below.refl _ _⟩
            · have d58 := hD.out 7 58 (by simp [hdep]) rfl
              rw [show vals 7 = .pointer (some ⟨(Ox + 1), 0, none⟩) from hV 7 (by simp [hdep])] at d58
              exact step_run rfl (v := .slice yp mB yd) (w' := w') (by go_simp) ⟨rfl, Below.refl _ _⟩
            · have d59 := hD.out 8 59 (by simp [hdep]) rfl
              rw [show vals 8 = .slice yp mB yd from hV 8 (by simp [hdep])] at d59
              have CM := made_any w' NB yp yd (HXR.out.2.below hJ) (by have := HLB.out; omega)
              rw [HMA.out.2] at CM
              refine step_enter rfl (w' := w') (by go_simp) (CM.mono ?_)
              rintro e x ⟨v, rfl, h1, h2⟩
              exact ⟨_, rfl, h1.mono hJ.size, h2⟩
            · have d55 := hD.out 4 55 (by simp [hdep]) rfl
              have d60 := hD.out 9 60 (by simp [hdep]) rfl
              have hva := hV 4 (by simp [hdep])
              have hvb := hV 9 (by simp [hdep])
              obtain ⟨ap, ac, hae, -, han, har, -⟩ := hva.row
              obtain ⟨bp, bc, hbe, -, hbn, hbr, -⟩ := hvb.row
              rw [hae] at d55
              rw [hbe] at d60
              refine step_enter rfl (w' := w') (by go_simp) ((merge_any w' NA NB ap bp ac bc har hbr han hbn (HEA.out.below hJ) (HEB.out.below hJ) (by have := HLA.out; omega) (by have := HLB.out; omega)).mono ?_)
              rintro e x ⟨v, L, rfl, h1, h2, h3, h4, h5⟩
              exact ⟨_, rfl, ⟨L, h1.mono hJ.size, h2, h3⟩, h5⟩
            · have d61 := hD.out 10 61 (by simp [hdep]) rfl
              obtain ⟨L, h1, h2, h3⟩ := hV 10 (by simp [hdep])
              obtain ⟨lp, lc, hlv, -, -, hlr, -⟩ := h1.row
              rw [hlv] at d61
              have hll : L.length ≤ 2000 := by
                have := two_len h2
                have := HLA.out
                have := HLB.out
                omega
              refine step_enter rfl (w' := w') (by go_simp) ((back_any w' L lp lc hlr hll).mono ?_)
              rintro e x ⟨v, rfl, h4, h5⟩
              exact ⟨_, rfl, ⟨L, h4.mono hJ.size, h2, h3.below h5⟩, h5⟩
            · have d62 := hD.out 11 62 (by simp [hdep]) rfl
              exact step_run rfl (v := vals 11) (w' := w') (by go_simp) ⟨hV 11 (by simp [hdep]), Below.refl _ _⟩
          · intro vals w' hJ hV
            have e0 : vals 0 = .pointer (some ⟨Ox, 0, none⟩) := hV 0 (by decide)
            have e1 : vals 1 = .pointer (some ⟨Ox, 0, none⟩) := hV 1 (by decide)
            have e2 : vals 2 = .pointer (some ⟨Ox, 0, none⟩) := hV 2 (by decide)
            have e3 : vals 3 = .slice xp mA xd := hV 3 (by decide)
            have q4 := hV 4 (by decide)
            have e5 : vals 5 = .pointer (some ⟨(Ox + 1), 0, none⟩) := hV 5 (by decide)
            have e6 : vals 6 = .pointer (some ⟨(Ox + 1), 0, none⟩) := hV 6 (by decide)
            have e7 : vals 7 = .pointer (some ⟨(Ox + 1), 0, none⟩) := hV 7 (by decide)
            have e8 : vals 8 = .slice yp mB yd := hV 8 (by decide)
            have q9 := hV 9 (by decide)
            have q10 := hV 10 (by decide)
            have q11 := hV 11 (by decide)
            have q12 := hV 12 (by decide)
            simp only [putsL, Act.put, List.setIfInBounds_toArray, List.set_cons_zero, List.set_cons_succ, e0, e1, e2, e3, e5, e6, e7, e8]
            clear e0 e1 e2 e3 e5 e6 e7 e8
            obtain ⟨M, hM1, hM2, hM3⟩ := q12
            obtain ⟨mp, mc, hmv, -, -, hmr, -⟩ := hM1.row
            obtain ⟨mM, hmM⟩ : ∃ m, M.length = m := ⟨_, rfl⟩
            rw [hmM] at hmv
            have HMM := Lib.hid hmM
            have HM2 := Lib.hid hM2
            have HM3 := Lib.hid hM3
            have HMR := Lib.hid hmr
            have HMV := Lib.hid hmv
            have HJ := Lib.hid hJ
            have HBC := Lib.hid (HWB.out.trans (hJ.mono HWB.out.size))
            clear q4 q9 q10 q11 hM1 hM2 hM3 hmr hmM hmv hJ hV
            generalize w' = WC at *
            simp only [Nat.zero_add, Nat.reduceAdd]
            rw [HMV.out]
            clear HMV
            obtain ⟨Oz, hOz⟩ : ∃ O, WC.heap.size = O := ⟨_, rfl⟩
            obtain ⟨WZ, hWZ⟩ : ∃ W, WC.alloc (.cells #[.slice none 0 0] 28) = W := ⟨_, rfl⟩
            have hbz : Below WC.heap.size WC WZ := hWZ ▸ (Below.refl _ _).alloc (Nat.le_refl _) _
            have hoz : WZ.heap[WC.heap.size]? = some (.cells #[.slice none 0 0] 28 (0, 0)) := hWZ ▸ new_block _ _ _
            have hzz : WZ.heap.size = WC.heap.size + 1 := by rw [← hWZ]; simp
            rw [hOz] at hoz
            have HZ0 := Lib.hid (OnRun.start (B := w0.heap.size) hoz (by rw [← hOz]; exact HBC.out.size))
            have HBZ := Lib.hid hbz
            have HSZ := Lib.hid (show Oz = WC.heap.size ∧ WB.heap.size ≤ Oz ∧ WZ.heap.size = Oz + 1 from ⟨hOz.symm, by rw [← hOz]; exact HJ.out.size, by rw [← hOz]; exact hzz⟩)
            have HWZ := Lib.hid (And.intro hWZ hOz)
            clear hOz hWZ hbz hoz hzz
            go_upto_region 16 with fail
            rw [HWZ.out.1, HWZ.out.2]
            clear HWZ
            go_wp2_with fail
            go_loopw [11] (fun i wr => ∃ k : Nat, i = .int .i64 k ∧ k ≤ mA ∧ Hid (OnRun WZ w0.heap.size Oz (notesE (NA.take k)) wr)) (fun i _ => mA - (RowKit.intOf i).toNat)
            case atStart => exact ⟨0, rfl, Nat.zero_le _, HZ0⟩
            case round =>
              obtain ⟨k, rfl, hkn, HI⟩ := hrel
              have hbc : Below WC.heap.size WC wr := HBZ.out.trans (HI.out.kept.below (fun i hi => by have := HSZ.out.1; omega) HBZ.out.size)
              have hbb : Below WB.heap.size WB wr := HJ.out.trans (hbc.mono HJ.out.size)
              have hox := cell_at ((hbb.block Ox HOX.out.2).trans HOX.out.1) 0
              rcases Nat.lt_or_ge k mA with hk | hk
              · have hkz : (k : Int) < (mA : Int) := by omega
                have hpos : (0 : Int) ≤ (k : Int) := by omega
                have hkx : k < NA.length := by rw [HMA.out.1]; exact hk
                obtain ⟨e, he⟩ : ∃ e, NA.getD k default = e := ⟨_, rfl⟩
                have hmem : e ∈ NA := by rw [← he]; simp [List.getD, hkx]
                obtain ⟨qb, qo, rfl, -, hce⟩ := ent_cells HXR.out.1 hbb hkx
                rw [he] at hce
                have CN := Lib.hid (note_run HI.out (by have := notesE_len (NA.take k); rw [List.length_take] at this; have := HLA.out; omega) e (HFA.out e hmem).1)
                have HNK := Lib.hid (notesE_snoc NA k hkx)
                rw [he] at HNK
                unfold repV at CN
                have z0 := hce 1 (by decide)
                have z1 := hce 2 (by decide)
                have z2 := hce 3 (by decide)
                have z3 := hce 4 (by decide)
                have z4 := hce 5 (by decide)
                have z5 := hce 6 (by decide)
                have z6 := hce 7 (by decide)
                have z7 := hce 8 (by decide)
                simp only [Ent.list] at z0 z1 z2 z3 z4 z5 z6 z7
                clear hce he hmem hbc hbb HI
                go_wp2_with (go_at_call 8; refine CN.out.mono ?_; rintro e' w5 ⟨rfl, hrun, -⟩; have HQ := Lib.hid hrun; clear hrun)
                exact ⟨⟨k + 1, by go_num, hk, by rw [HNK.out]; exact HQ⟩, by simp [RowKit.intOf]; omega⟩
              · have hkz : ¬ (k : Int) < (mA : Int) := by omega
                have HY1 := Lib.hid (show OnRun WZ w0.heap.size Oz (notesE (NA ++ NB.take 0)) wr from by
                  have := HI.out
                  rw [List.take_of_length_le (by rw [HMA.out.1]; omega)] at this
                  rw [List.take_zero, List.append_nil]
                  exact this)
                clear hbc hbb HI HZ0
                go_wp2_with fail
                generalize k = k3 at *
                clear hox
                generalize wr = wr3 at *
                go_loopw [12] (fun i wr => ∃ k : Nat, i = .int .i64 k ∧ k ≤ mB ∧ Hid (OnRun WZ w0.heap.size Oz (notesE (NA ++ NB.take k)) wr)) (fun i _ => mB - (RowKit.intOf i).toNat)
                case atStart => exact ⟨0, rfl, Nat.zero_le _, HY1⟩
                case round =>
                  obtain ⟨k, rfl, hkn, HI⟩ := hrel
                  have hbc : Below WC.heap.size WC wr := HBZ.out.trans (HI.out.kept.below (fun i hi => by have := HSZ.out.1; omega) HBZ.out.size)
                  have hbb : Below WB.heap.size WB wr := HJ.out.trans (hbc.mono HJ.out.size)
                  have hoy := cell_at ((hbb.block (Ox + 1) HOY.out.2).trans HOY.out.1) 0
                  rcases Nat.lt_or_ge k mB with hk | hk
                  · have hkz : (k : Int) < (mB : Int) := by omega
                    have hpos : (0 : Int) ≤ (k : Int) := by omega
                    have hkx : k < NB.length := by rw [HMA.out.2]; exact hk
                    obtain ⟨e, he⟩ : ∃ e, NB.getD k default = e := ⟨_, rfl⟩
                    have hmem : e ∈ NB := by rw [← he]; simp [List.getD, hkx]
                    obtain ⟨qb, qo, rfl, -, hce⟩ := ent_cells HXR.out.2 hbb hkx
                    rw [he] at hce
                    have CN := Lib.hid (note_run HI.out (by have := notesE_len (NA ++ NB.take k); rw [List.length_append, List.length_take] at this; have := HLA.out; have := HLB.out; omega) e (HFB.out e hmem).1)
                    have HNK := Lib.hid (notes_app_snoc NA NB k hkx)
                    rw [he] at HNK
                    unfold repV at CN
                    have z0 := hce 1 (by decide)
                    have z1 := hce 2 (by decide)
                    have z2 := hce 3 (by decide)
                    have z3 := hce 4 (by decide)
                    have z4 := hce 5 (by decide)
                    have z5 := hce 6 (by decide)
                    have z6 := hce 7 (by decide)
                    have z7 := hce 8 (by decide)
                    simp only [Ent.list] at z0 z1 z2 z3 z4 z5 z6 z7
                    clear hce he hmem hbc hbb HI
                    go_wp2_with (go_at_call 8; refine CN.out.mono ?_; rintro e' w5 ⟨rfl, hrun, -⟩; have HQ := Lib.hid hrun; clear hrun)
                    exact ⟨⟨k + 1, by go_num, hk, by rw [HNK.out]; exact HQ⟩, by simp [RowKit.intOf]; omega⟩
                  · have hkz : ¬ (k : Int) < (mB : Int) := by omega
                    obtain ⟨vz, haz, -⟩ := HI.out.at_
                    rw [List.take_of_length_le (by rw [HMA.out.2]; omega)] at haz
                    obtain ⟨zp, zd, rfl, -, -, hzr, -⟩ := haz.own.row
                    obtain ⟨NZ, hNZ⟩ : ∃ N, notesE (NA ++ NB) = N := ⟨_, rfl⟩
                    have HWS := Lib.hid (show semL M = semL NZ from by rw [HM2.out, ← hNZ]; exact (want_sem HFA.out HFB.out).symm)
                    have HLN := Lib.hid (show NZ.length ≤ 202 from by rw [← hNZ]; have := notesE_len (NA ++ NB); rw [List.length_append] at this; have := HLA.out; have := HLB.out; omega)
                    have HEN := Lib.hid (show EntsIn wr NZ from fun e he => by
                      rw [← hNZ] at he
                      rcases List.mem_append.1 (notesE_mem he).1 with h | h
                      · exact (HEA.out e h).below hbb
                      · exact (HEB.out e h).below hbb)
                    have hcz := haz.c
                    rw [hNZ] at hzr hcz
                    obtain ⟨mN, hmN⟩ : ∃ m, NZ.length = m := ⟨_, rfl⟩
                    rw [hmN] at hcz
                    have HMN := Lib.hid hmN
                    have HZR := Lib.hid hzr
                    have HOZ := Lib.hid (And.intro hcz (Array.getElem?_eq_some_iff.1 hcz).1)
                    have HOX4 := Lib.hid (And.intro ((hbb.block Ox HOX.out.2).trans HOX.out.1) (show Ox < wr.heap.size by have := hbb.size; have := HOX.out.2; omega))
                    have HXR4 := Lib.hid (HXR.out.1.below hbb)
                    have HEA4 := Lib.hid (HEA.out.below hbb)
                    have HM4 := Lib.hid (And.intro (HMR.out.below hbc) (HM3.out.below hbc))
                    have HB4 := Lib.hid (HBC.out.trans (hbc.mono HBC.out.size))
                    have HML := Lib.hid (show M.length ≤ 202 from by have := two_len HM2.out; have := HLA.out; have := HLB.out; omega)
                    clear haz hzr hcz hmN hNZ hbc hbb HI HY1
                    go_wp2_with fail
                    clear hoy
                    generalize wr = WF at *
                    generalize k = k4 at *
                    refine wp_region_mono mx (by kernel_rfl) [VP.eq (.slice mp mM mc), VP.eq (.pointer (some ⟨Oz, 0, none⟩)), VP.eq (.pointer (some ⟨Oz, 0, none⟩)), VP.eq (.pointer (some ⟨Oz, 0, none⟩)), VP.eq (.slice zp mN zd), VP.eq (.bool true), VP.eq (.bool true), VP.eq (.pointer (some ⟨Ox, 0, none⟩)), VP.eq (.pointer (some ⟨Ox, 0, none⟩)), VP.eq (.pointer (some ⟨Ox, 0, none⟩)), VP.eq (.slice xp mA xd), vpX WF.heap.size 51 NA, VP.eq (.pointer (some ⟨Ox, 0, none⟩)), VP.eq (.pointer (some ⟨Ox, 0, none⟩)), VP.eq (.pointer (some ⟨Ox, 0, none⟩)), VP.eq (.slice xp mA xd), vpX WF.heap.size 51 NA, vpE WF.heap.size 51 (semL NA), vpE WF.heap.size 39 (semL NA), VP.eq (.pointer (some ⟨Ox, 0, none⟩)), VP.eq (.pointer (some ⟨Ox, 0, none⟩)), VP.eq (.pointer (some ⟨Ox, 0, none⟩)), VP.eq (.slice xp mA xd), VP.eq (.bool true), VP.eq (.bool true), VP.eq (.bool true), VP.eq (.pointer (some ⟨Ox, 0, none⟩)), VP.eq (.pointer (some ⟨Ox, 0, none⟩)), VP.eq (.pointer (some ⟨Ox, 0, none⟩)), VP.eq (.slice xp mA xd), vpX WF.heap.size 51 NA, vpE WF.heap.size 51 (semL NA), vpE WF.heap.size 39 (semL NA), VP.eq (.pointer (some ⟨Ox, 0, none⟩)), VP.eq (.pointer (some ⟨Ox, 0, none⟩)), VP.eq (.pointer (some ⟨Ox, 0, none⟩)), VP.eq (.slice xp mA xd), VP.eq (.bool true), VP.eq (.bool true), VP.eq (.bool true)] ?_ ?_
                    · intro i o L vals w' hi hL hdep hC hJ hV
                      have hlt : i < 40 := by have := (List.getElem?_eq_some_iff.1 hi).1; simpa using this
                      generalize hA : frA _ _ L vals = a'
                      have hT5 : a'.tmps.getD 5 undef = .pointer (some ⟨Ox, 0, none⟩) := by rw [← hA, frA_base (by kernel_rfl)]; rfl
                      have hT9 : a'.tmps.getD 9 undef = .slice mp mM mc := by rw [← hA, frA_base (by kernel_rfl)]; rfl
                      have hT10 : a'.tmps.getD 10 undef = .pointer (some ⟨Oz, 0, none⟩) := by rw [← hA, frA_base (by kernel_rfl)]; rfl
                      have hD := Lib.hid (fun k t (hk : L k = true) (ht : dstOf _ k = some t) => hA ▸ frA_done (by kernel_rfl) (vals := vals) hk ht)
                      clear hA
                      have hox := cell_at ((hJ.block Ox HOX4.out.2).trans HOX4.out.1) 0
                      have hoz := cell_at ((hJ.block Oz HOZ.out.2).trans HOZ.out.1) 0
                      obtain rfl | rfl | rfl | rfl | rfl | rfl | rfl | rfl | rfl | rfl | rfl | rfl | rfl | rfl | rfl | rfl | rfl | rfl | rfl | rfl | rfl | rfl | rfl | rfl | rfl | rfl | rfl | rfl | rfl | rfl | rfl | rfl | rfl | rfl | rfl | rfl | rfl | rfl | rfl | rfl : i = 0 ∨ i = 1 ∨ i = 2 ∨ i = 3 ∨ i = 4 ∨ i = 5 ∨ i = 6 ∨ i = 7 ∨ i = 8 ∨ i = 9 ∨ i = 10 ∨ i = 11 ∨ i = 12 ∨ i = 13 ∨ i = 14 ∨ i = 15 ∨ i = 16 ∨ i = 17 ∨ i = 18 ∨ i = 19 ∨ i = 20 ∨ i = 21 ∨ i = 22 ∨ i = 23 ∨ i = 24 ∨ i = 25 ∨ i = 26 ∨ i = 27 ∨ i = 28 ∨ i = 29 ∨ i = 30 ∨ i = 31 ∨ i = 32 ∨ i = 33 ∨ i = 34 ∨ i = 35 ∨ i = 36 ∨ i = 37 ∨ i = 38 ∨ i = 39 := by omega
                      all_goals
                        injection hi with hi
                        subst hi
                        try simp [Region.binds] at hdep
                      · exact step_run rfl (v := .slice mp mM mc) (w' := w') (by go_simp) ⟨rfl, Below.refl _ _⟩
                      · exact step_run rfl (v := .pointer (some ⟨Oz, 0, none⟩)) (w' := w') (by go_simp) ⟨rfl, Below.refl _ _⟩
                      · have d104 := hD.out 1 104 (by simp [hdep]) rfl
                        rw [show vals 1 = .pointer (some ⟨Oz, 0, none⟩) from hV 1 (by simp [hdep])] at d104
                        exact step_run rfl (v := .pointer (some ⟨Oz, 0, none⟩)) (w' := w') (by go_simp) ⟨rfl, Below.refl _ _⟩
                      · have d105 := hD.out 2 105 (by simp [hdep]) rfl
                        rw [show vals 2 = .pointer (some ⟨Oz, 0, none⟩) from hV 2 (by simp [hdep])] at d105
                        exact step_run rfl (v := .pointer (some ⟨Oz, 0, none⟩)) (w' := w') (by go_simp) ⟨rfl, Below.refl _ _⟩
                      · have d106 := hD.out 3 106 (by simp [hdep]) rfl
                        rw [show vals 3 = .pointer (some ⟨Oz, 0, none⟩) from hV 3 (by simp [hdep])] at d106
                        exact step_run rfl (v := .slice zp mN zd) (w' := w') (by go_simp) ⟨rfl, Below.refl _ _⟩
                      · have d103 := hD.out 0 103 (by simp [hdep]) rfl
                        rw [show vals 0 = .slice mp mM mc from hV 0 (by simp [hdep])] at d103
                        have d107 := hD.out 4 107 (by simp [hdep]) rfl
                        rw [show vals 4 = .slice zp mN zd from hV 4 (by simp [hdep])] at d107
                        have CS := sameE_any w' M NZ mp zp mc zd (HM4.out.1.below hJ) (HZR.out.below hJ) (HM4.out.2.below hJ) (HEN.out.below hJ) (by have := HML.out; omega) (by have := HLN.out; omega)
                        rw [HMM.out, HMN.out] at CS
                        refine step_enter rfl (w' := w') (by go_simp) (CS.mono ?_)
                        rintro e x ⟨B, rfl, hB, h5⟩
                        have : B = true := hB.2 HWS.out
                        subst this
                        exact ⟨_, rfl, rfl, h5⟩
                      · have d108 := hD.out 5 108 (by simp [hdep]) rfl
                        rw [show vals 5 = .bool true from hV 5 (by simp [hdep])] at d108
                        exact step_run rfl (v := .bool true) (w' := w') (by go_simp) ⟨rfl, Below.refl _ _⟩
                      · have d109 := hD.out 6 109 (by simp [hdep]) rfl
                        rw [show vals 6 = .bool true from hV 6 (by simp [hdep])] at d109
                        exact step_run' (wanted_open rfl rfl d109) (v := .pointer (some ⟨Ox, 0, none⟩)) (w' := w') (by go_simp) ⟨rfl, Below.refl _ _⟩
                      · have d110 := hD.out 7 110 (by simp [hdep]) rfl
                        rw [show vals 7 = .pointer (some ⟨Ox, 0, none⟩) from hV 7 (by simp [hdep])] at d110
                        have d109 := hD.out 6 109 (by simp [hdep]) rfl
                        rw [show vals 6 = .bool true from hV 6 (by simp [hdep])] at d109
                        exact step_run' (wanted_open rfl rfl d109) (v := .pointer (some ⟨Ox, 0, none⟩)) (w' := w') (by go_simp) ⟨rfl, Below.refl _ _⟩
                      · have d111 := hD.out 8 111 (by simp [hdep]) rfl
                        rw [show vals 8 = .pointer (some ⟨Ox, 0, none⟩) from hV 8 (by simp [hdep])] at d111
                        have d109 := hD.out 6 109 (by simp [hdep]) rfl
                        rw [show vals 6 = .bool true from hV 6 (by simp [hdep])] at d109
                        exact step_run' (wanted_open rfl rfl d109) (v := .pointer (some ⟨Ox, 0, none⟩)) (w' := w') (by go_simp) ⟨rfl, Below.refl _ _⟩
                      · have d112 := hD.out 9 112 (by simp [hdep]) rfl
                        rw [show vals 9 = .pointer (some ⟨Ox, 0, none⟩) from hV 9 (by simp [hdep])] at d112
                        have d109 := hD.out 6 109 (by simp [hdep]) rfl
                        rw [show vals 6 = .bool true from hV 6 (by simp [hdep])] at d109
                        exact step_run' (wanted_open rfl rfl d109) (v := .slice xp mA xd) (w' := w') (by go_simp) ⟨rfl, Below.refl _ _⟩
                      · have d113 := hD.out 10 113 (by simp [hdep]) rfl
                        rw [show vals 10 = .slice xp mA xd from hV 10 (by simp [hdep])] at d113
                        have d109 := hD.out 6 109 (by simp [hdep]) rfl
                        rw [show vals 6 = .bool true from hV 6 (by simp [hdep])] at d109
                        have CM := made_any w' NA xp xd (HXR4.out.below hJ) (by have := HLA.out; omega)
                        rw [HMA.out.1] at CM
                        refine step_enter' (wanted_open rfl rfl d109) (w' := w') (by go_simp) (CM.mono ?_)
                        rintro e x ⟨v, rfl, h1, h2⟩
                        exact ⟨_, rfl, h1.mono hJ.size, h2⟩
                      · have d109 := hD.out 6 109 (by simp [hdep]) rfl
                        rw [show vals 6 = .bool true from hV 6 (by simp [hdep])] at d109
                        exact step_run' (wanted_open rfl rfl d109) (v := .pointer (some ⟨Ox, 0, none⟩)) (w' := w') (by go_simp) ⟨rfl, Below.refl _ _⟩
                      · have d115 := hD.out 12 115 (by simp [hdep]) rfl
                        rw [show vals 12 = .pointer (some ⟨Ox, 0, none⟩) from hV 12 (by simp [hdep])] at d115
                        have d109 := hD.out 6 109 (by simp [hdep]) rfl
                        rw [show vals 6 = .bool true from hV 6 (by simp [hdep])] at d109
                        exact step_run' (wanted_open rfl rfl d109) (v := .pointer (some ⟨Ox, 0, none⟩)) (w' := w') (by go_simp) ⟨rfl, Below.refl _ _⟩
                      · have d116 := hD.out 13 116 (by simp [hdep]) rfl
                        rw [show vals 13 = .pointer (some ⟨Ox, 0, none⟩) from hV 13 (by simp [hdep])] at d116
                        have d109 := hD.out 6 109 (by simp [hdep]) rfl
                        rw [show vals 6 = .bool true from hV 6 (by simp [hdep])] at d109
                        exact step_run' (wanted_open rfl rfl d109) (v := .pointer (some ⟨Ox, 0, none⟩)) (w' := w') (by go_simp) ⟨rfl, Below.refl _ _⟩
                      · have d117 := hD.out 14 117 (by simp [hdep]) rfl
                        rw [show vals 14 = .pointer (some ⟨Ox, 0, none⟩) from hV 14 (by simp [hdep])] at d117
                        have d109 := hD.out 6 109 (by simp [hdep]) rfl
                        rw [show vals 6 = .bool true from hV 6 (by simp [hdep])] at d109
                        exact step_run' (wanted_open rfl rfl d109) (v := .slice xp mA xd) (w' := w') (by go_simp) ⟨rfl, Below.refl _ _⟩
                      · have d118 := hD.out 15 118 (by simp [hdep]) rfl
                        rw [show vals 15 = .slice xp mA xd from hV 15 (by simp [hdep])] at d118
                        have d109 := hD.out 6 109 (by simp [hdep]) rfl
                        rw [show vals 6 = .bool true from hV 6 (by simp [hdep])] at d109
                        have CM := made_any w' NA xp xd (HXR4.out.below hJ) (by have := HLA.out; omega)
                        rw [HMA.out.1] at CM
                        refine step_enter' (wanted_open rfl rfl d109) (w' := w') (by go_simp) (CM.mono ?_)
                        rintro e x ⟨v, rfl, h1, h2⟩
                        exact ⟨_, rfl, h1.mono hJ.size, h2⟩
                      · have d114 := hD.out 11 114 (by simp [hdep]) rfl
                        have d119 := hD.out 16 119 (by simp [hdep]) rfl
                        have d109 := hD.out 6 109 (by simp [hdep]) rfl
                        rw [show vals 6 = .bool true from hV 6 (by simp [hdep])] at d109
                        have hva := hV 11 (by simp [hdep])
                        have hvb := hV 16 (by simp [hdep])
                        obtain ⟨ap, ac, hae, -, han, har, -⟩ := hva.row
                        obtain ⟨bp, bc, hbe, -, hbn, hbr, -⟩ := hvb.row
                        rw [hae] at d114
                        rw [hbe] at d119
                        refine step_enter' (wanted_open rfl rfl d109) (w' := w') (by go_simp) ((merge_any w' NA NA ap bp ac bc har hbr han hbn (HEA4.out.below hJ) (HEA4.out.below hJ) (by have := HLA.out; omega) (by have := HLA.out; omega)).mono ?_)
                        rintro e x ⟨v, L, rfl, h1, h2, h3, h4, h5⟩
                        rw [HSS.out.1] at h2
                        exact ⟨_, rfl, ⟨L, h1.mono hJ.size, h2, h3⟩, h5⟩
                      · have d120 := hD.out 17 120 (by simp [hdep]) rfl
                        have d109 := hD.out 6 109 (by simp [hdep]) rfl
                        rw [show vals 6 = .bool true from hV 6 (by simp [hdep])] at d109
                        obtain ⟨L, h1, h2, h3⟩ := hV 17 (by simp [hdep])
                        obtain ⟨lp, lc, hlv, -, -, hlr, -⟩ := h1.row
                        rw [hlv] at d120
                        have hll : L.length ≤ 2000 := by
                          have := sem_length h2
                          have := HLA.out
                          omega
                        refine step_enter' (wanted_open rfl rfl d109) (w' := w') (by go_simp) ((back_any w' L lp lc hlr hll).mono ?_)
                        rintro e x ⟨v, rfl, h4, h5⟩
                        exact ⟨_, rfl, ⟨L, h4.mono hJ.size, h2, h3.below h5⟩, h5⟩
                      · have d109 := hD.out 6 109 (by simp [hdep]) rfl
                        rw [show vals 6 = .bool true from hV 6 (by simp [hdep])] at d109
                        exact step_run' (wanted_open rfl rfl d109) (v := .pointer (some ⟨Ox, 0, none⟩)) (w' := w') (by go_simp) ⟨rfl, Below.refl _ _⟩
                      · have d122 := hD.out 19 122 (by simp [hdep]) rfl
                        rw [show vals 19 = .pointer (some ⟨Ox, 0, none⟩) from hV 19 (by simp [hdep])] at d122
                        have d109 := hD.out 6 109 (by simp [hdep]) rfl
                        rw [show vals 6 = .bool true from hV 6 (by simp [hdep])] at d109
                        exact step_run' (wanted_open rfl rfl d109) (v := .pointer (some ⟨Ox, 0, none⟩)) (w' := w') (by go_simp) ⟨rfl, Below.refl _ _⟩
                      · have d123 := hD.out 20 123 (by simp [hdep]) rfl
                        rw [show vals 20 = .pointer (some ⟨Ox, 0, none⟩) from hV 20 (by simp [hdep])] at d123
                        have d109 := hD.out 6 109 (by simp [hdep]) rfl
                        rw [show vals 6 = .bool true from hV 6 (by simp [hdep])] at d109
                        exact step_run' (wanted_open rfl rfl d109) (v := .pointer (some ⟨Ox, 0, none⟩)) (w' := w') (by go_simp) ⟨rfl, Below.refl _ _⟩
                      · have d124 := hD.out 21 124 (by simp [hdep]) rfl
                        rw [show vals 21 = .pointer (some ⟨Ox, 0, none⟩) from hV 21 (by simp [hdep])] at d124
                        have d109 := hD.out 6 109 (by simp [hdep]) rfl
                        rw [show vals 6 = .bool true from hV 6 (by simp [hdep])] at d109
                        exact step_run' (wanted_open rfl rfl d109) (v := .slice xp mA xd) (w' := w') (by go_simp) ⟨rfl, Below.refl _ _⟩
                      · have d121 := hD.out 18 121 (by simp [hdep]) rfl
                        have d125 := hD.out 22 125 (by simp [hdep]) rfl
                        rw [show vals 22 = .slice xp mA xd from hV 22 (by simp [hdep])] at d125
                        have d109 := hD.out 6 109 (by simp [hdep]) rfl
                        rw [show vals 6 = .bool true from hV 6 (by simp [hdep])] at d109
                        obtain ⟨L, h1, h2, h3⟩ := hV 18 (by simp [hdep])
                        obtain ⟨lp, lc, hlv, -, -, hlr, -⟩ := h1.row
                        rw [hlv] at d121
                        have hll : L.length ≤ 2000 := by
                          have := sem_length h2
                          have := HLA.out
                          omega
                        have CS := sameE_any w' L NA lp xp lc xd hlr (HXR4.out.below hJ) h3 (HEA4.out.below hJ) hll (by have := HLA.out; omega)
                        rw [HMA.out.1] at CS
                        refine step_enter' (wanted_open rfl rfl d109) (w' := w') (by go_simp) (CS.mono ?_)
                        rintro e x ⟨B, rfl, hB, h5⟩
                        have : B = true := hB.2 h2
                        subst this
                        exact ⟨_, rfl, rfl, h5⟩
                      · have d109 := hD.out 6 109 (by simp [hdep]) rfl
                        rw [show vals 6 = .bool true from hV 6 (by simp [hdep])] at d109
                        have d126 := hD.out 23 126 (by simp [hdep]) rfl
                        rw [show vals 23 = .bool true from hV 23 (by simp [hdep])] at d126
                        exact step_run rfl (v := .bool true) (w' := w') (by go_simp) ⟨rfl, Below.refl _ _⟩
                      · have d127 := hD.out 24 127 (by simp [hdep]) rfl
                        rw [show vals 24 = .bool true from hV 24 (by simp [hdep])] at d127
                        exact step_run rfl (v := .bool true) (w' := w') (by go_simp) ⟨rfl, Below.refl _ _⟩
                      · have d128 := hD.out 25 128 (by simp [hdep]) rfl
                        rw [show vals 25 = .bool true from hV 25 (by simp [hdep])] at d128
                        exact step_run' (wanted_open rfl rfl d128) (v := .pointer (some ⟨Ox, 0, none⟩)) (w' := w') (by go_simp) ⟨rfl, Below.refl _ _⟩
                      · have d129 := hD.out 26 129 (by simp [hdep]) rfl
                        rw [show vals 26 = .pointer (some ⟨Ox, 0, none⟩) from hV 26 (by simp [hdep])] at d129
                        have d128 := hD.out 25 128 (by simp [hdep]) rfl
                        rw [show vals 25 = .bool true from hV 25 (by simp [hdep])] at d128
                        exact step_run' (wanted_open rfl rfl d128) (v := .pointer (some ⟨Ox, 0, none⟩)) (w' := w') (by go_simp) ⟨rfl, Below.refl _ _⟩
                      · have d130 := hD.out 27 130 (by simp [hdep]) rfl
                        rw [show vals 27 = .pointer (some ⟨Ox, 0, none⟩) from hV 27 (by simp [hdep])] at d130
                        have d128 := hD.out 25 128 (by simp [hdep]) rfl
                        rw [show vals 25 = .bool true from hV 25 (by simp [hdep])] at d128
                        exact step_run' (wanted_open rfl rfl d128) (v := .pointer (some ⟨Ox, 0, none⟩)) (w' := w') (by go_simp) ⟨rfl, Below.refl _ _⟩
                      · have d131 := hD.out 28 131 (by simp [hdep]) rfl
                        rw [show vals 28 = .pointer (some ⟨Ox, 0, none⟩) from hV 28 (by simp [hdep])] at d131
                        have d128 := hD.out 25 128 (by simp [hdep]) rfl
                        rw [show vals 25 = .bool true from hV 25 (by simp [hdep])] at d128
                        exact step_run' (wanted_open rfl rfl d128) (v := .slice xp mA xd) (w' := w') (by go_simp) ⟨rfl, Below.refl _ _⟩
                      · have d132 := hD.out 29 132 (by simp [hdep]) rfl
                        rw [show vals 29 = .slice xp mA xd from hV 29 (by simp [hdep])] at d132
                        have d128 := hD.out 25 128 (by simp [hdep]) rfl
                        rw [show vals 25 = .bool true from hV 25 (by simp [hdep])] at d128
                        have CM := made_any w' NA xp xd (HXR4.out.below hJ) (by have := HLA.out; omega)
                        rw [HMA.out.1] at CM
                        refine step_enter' (wanted_open rfl rfl d128) (w' := w') (by go_simp) (CM.mono ?_)
                        rintro e x ⟨v, rfl, h1, h2⟩
                        exact ⟨_, rfl, h1.mono hJ.size, h2⟩
                      · have d133 := hD.out 30 133 (by simp [hdep]) rfl
                        have d128 := hD.out 25 128 (by simp [hdep]) rfl
                        rw [show vals 25 = .bool true from hV 25 (by simp [hdep])] at d128
                        have hvb := hV 30 (by simp [hdep])
                        obtain ⟨bp, bc, hbe, -, hbn, hbr, -⟩ := hvb.row
                        rw [hbe] at d133
                        have CM := merge_any w' [] NA none bp 0 bc (Or.inl rfl) hbr (fun _ => rfl) hbn (fun e he => by cases he) (HEA4.out.below hJ) (by simp) (by have := HLA.out; omega)
                        rw [List.length_nil] at CM
                        refine step_enter' (wanted_open rfl rfl d128) (w' := w') (by go_simp) (CM.mono ?_)
                        rintro e x ⟨v, L, rfl, h1, h2, h3, h4, h5⟩
                        rw [HSS.out.2] at h2
                        exact ⟨_, rfl, ⟨L, h1.mono hJ.size, h2, h3⟩, h5⟩
                      · have d134 := hD.out 31 134 (by simp [hdep]) rfl
                        have d128 := hD.out 25 128 (by simp [hdep]) rfl
                        rw [show vals 25 = .bool true from hV 25 (by simp [hdep])] at d128
                        obtain ⟨L, h1, h2, h3⟩ := hV 31 (by simp [hdep])
                        obtain ⟨lp, lc, hlv, -, -, hlr, -⟩ := h1.row
                        rw [hlv] at d134
                        have hll : L.length ≤ 2000 := by
                          have := sem_length h2
                          have := HLA.out
                          omega
                        refine step_enter' (wanted_open rfl rfl d128) (w' := w') (by go_simp) ((back_any w' L lp lc hlr hll).mono ?_)
                        rintro e x ⟨v, rfl, h4, h5⟩
                        exact ⟨_, rfl, ⟨L, h4.mono hJ.size, h2, h3.below h5⟩, h5⟩
                      · have d128 := hD.out 25 128 (by simp [hdep]) rfl
                        rw [show vals 25 = .bool true from hV 25 (by simp [hdep])] at d128
                        exact step_run' (wanted_open rfl rfl d128) (v := .pointer (some ⟨Ox, 0, none⟩)) (w' := w') (by go_simp) ⟨rfl, Below.refl _ _⟩
                      · have d136 := hD.out 33 136 (by simp [hdep]) rfl
                        rw [show vals 33 = .pointer (some ⟨Ox, 0, none⟩) from hV 33 (by simp [hdep])] at d136
                        have d128 := hD.out 25 128 (by simp [hdep]) rfl
                        rw [show vals 25 = .bool true from hV 25 (by simp [hdep])] at d128
                        exact step_run' (wanted_open rfl rfl d128) (v := .pointer (some ⟨Ox, 0, none⟩)) (w' := w') (by go_simp) ⟨rfl, Below.refl _ _⟩
                      · have d137 := hD.out 34 137 (by simp [hdep]) rfl
                        rw [show vals 34 = .pointer (some ⟨Ox, 0, none⟩) from hV 34 (by simp [hdep])] at d137
                        have d128 := hD.out 25 128 (by simp [hdep]) rfl
                        rw [show vals 25 = .bool true from hV 25 (by simp [hdep])] at d128
                        exact step_run' (wanted_open rfl rfl d128) (v := .pointer (some ⟨Ox, 0, none⟩)) (w' := w') (by go_simp) ⟨rfl, Below.refl _ _⟩
                      · have d138 := hD.out 35 138 (by simp [hdep]) rfl
                        rw [show vals 35 = .pointer (some ⟨Ox, 0, none⟩) from hV 35 (by simp [hdep])] at d138
                        have d128 := hD.out 25 128 (by simp [hdep]) rfl
                        rw [show vals 25 = .bool true from hV 25 (by simp [hdep])] at d128
                        exact step_run' (wanted_open rfl rfl d128) (v := .slice xp mA xd) (w' := w') (by go_simp) ⟨rfl, Below.refl _ _⟩
                      · have d135 := hD.out 32 135 (by simp [hdep]) rfl
                        have d139 := hD.out 36 139 (by simp [hdep]) rfl
                        rw [show vals 36 = .slice xp mA xd from hV 36 (by simp [hdep])] at d139
                        have d128 := hD.out 25 128 (by simp [hdep]) rfl
                        rw [show vals 25 = .bool true from hV 25 (by simp [hdep])] at d128
                        obtain ⟨L, h1, h2, h3⟩ := hV 32 (by simp [hdep])
                        obtain ⟨lp, lc, hlv, -, -, hlr, -⟩ := h1.row
                        rw [hlv] at d135
                        have hll : L.length ≤ 2000 := by
                          have := sem_length h2
                          have := HLA.out
                          omega
                        have CS := sameE_any w' L NA lp xp lc xd hlr (HXR4.out.below hJ) h3 (HEA4.out.below hJ) hll (by have := HLA.out; omega)
                        rw [HMA.out.1] at CS
                        refine step_enter' (wanted_open rfl rfl d128) (w' := w') (by go_simp) (CS.mono ?_)
                        rintro e x ⟨B, rfl, hB, h5⟩
                        have : B = true := hB.2 h2
                        subst this
                        exact ⟨_, rfl, rfl, h5⟩
                      · have d128 := hD.out 25 128 (by simp [hdep]) rfl
                        rw [show vals 25 = .bool true from hV 25 (by simp [hdep])] at d128
                        have d140 := hD.out 37 140 (by simp [hdep]) rfl
                        rw [show vals 37 = .bool true from hV 37 (by simp [hdep])] at d140
                        exact step_run rfl (v := .bool true) (w' := w') (by go_simp) ⟨rfl, Below.refl _ _⟩
                      · have d141 := hD.out 38 141 (by simp [hdep]) rfl
                        rw [show vals 38 = .bool true from hV 38 (by simp [hdep])] at d141
                        exact step_run rfl (v := .bool true) (w' := w') (by go_simp) ⟨rfl, Below.refl _ _⟩
                    · intro vals w' hJ hV
                      have e0 : vals 0 = .slice mp mM mc := hV 0 (by decide)
                      have e1 : vals 1 = .pointer (some ⟨Oz, 0, none⟩) := hV 1 (by decide)
                      have e2 : vals 2 = .pointer (some ⟨Oz, 0, none⟩) := hV 2 (by decide)
                      have e3 : vals 3 = .pointer (some ⟨Oz, 0, none⟩) := hV 3 (by decide)
                      have e4 : vals 4 = .slice zp mN zd := hV 4 (by decide)
                      have e5 : vals 5 = .bool true := hV 5 (by decide)
                      have e6 : vals 6 = .bool true := hV 6 (by decide)
                      have e7 : vals 7 = .pointer (some ⟨Ox, 0, none⟩) := hV 7 (by decide)
                      have e8 : vals 8 = .pointer (some ⟨Ox, 0, none⟩) := hV 8 (by decide)
                      have e9 : vals 9 = .pointer (some ⟨Ox, 0, none⟩) := hV 9 (by decide)
                      have e10 : vals 10 = .slice xp mA xd := hV 10 (by decide)
                      have q11 := hV 11 (by decide)
                      have e12 : vals 12 = .pointer (some ⟨Ox, 0, none⟩) := hV 12 (by decide)
                      have e13 : vals 13 = .pointer (some ⟨Ox, 0, none⟩) := hV 13 (by decide)
                      have e14 : vals 14 = .pointer (some ⟨Ox, 0, none⟩) := hV 14 (by decide)
                      have e15 : vals 15 = .slice xp mA xd := hV 15 (by decide)
                      have q16 := hV 16 (by decide)
                      have q17 := hV 17 (by decide)
                      have q18 := hV 18 (by decide)
                      have e19 : vals 19 = .pointer (some ⟨Ox, 0, none⟩) := hV 19 (by decide)
                      have e20 : vals 20 = .pointer (some ⟨Ox, 0, none⟩) := hV 20 (by decide)
                      have e21 : vals 21 = .pointer (some ⟨Ox, 0, none⟩) := hV 21 (by decide)
                      have e22 : vals 22 = .slice xp mA xd := hV 22 (by decide)
                      have e23 : vals 23 = .bool true := hV 23 (by decide)
                      have e24 : vals 24 = .bool true := hV 24 (by decide)
                      have e25 : vals 25 = .bool true := hV 25 (by decide)
                      have e26 : vals 26 = .pointer (some ⟨Ox, 0, none⟩) := hV 26 (by decide)
                      have e27 : vals 27 = .pointer (some ⟨Ox, 0, none⟩) := hV 27 (by decide)
                      have e28 : vals 28 = .pointer (some ⟨Ox, 0, none⟩) := hV 28 (by decide)
                      have e29 : vals 29 = .slice xp mA xd := hV 29 (by decide)
                      have q30 := hV 30 (by decide)
                      have q31 := hV 31 (by decide)
                      have q32 := hV 32 (by decide)
                      have e33 : vals 33 = .pointer (some ⟨Ox, 0, none⟩) := hV 33 (by decide)
                      have e34 : vals 34 = .pointer (some ⟨Ox, 0, none⟩) := hV 34 (by decide)
                      have e35 : vals 35 = .pointer (some ⟨Ox, 0, none⟩) := hV 35 (by decide)
                      have e36 : vals 36 = .slice xp mA xd := hV 36 (by decide)
                      have e37 : vals 37 = .bool true := hV 37 (by decide)
                      have e38 : vals 38 = .bool true := hV 38 (by decide)
                      have e39 : vals 39 = .bool true := hV 39 (by decide)
                      simp only [putsL, Act.put, List.setIfInBounds_toArray, List.set_cons_zero, List.set_cons_succ, e0, e1, e2, e3, e4, e5, e6, e7, e8, e9, e10, e12, e13, e14, e15, e19, e20, e21, e22, e23, e24, e25, e26, e27, e28, e29, e33, e34, e35, e36, e37, e38, e39]
                      clear e0 e1 e2 e3 e4 e5 e6 e7 e8 e9 e10 e12 e13 e14 e15 e19 e20 e21 e22 e23 e24 e25 e26 e27 e28 e29 e33 e34 e35 e36 e37 e38 e39
                      have HBx := Lib.hid (HB4.out.trans (hJ.mono HB4.out.size))
                      clear hJ hV q11 q16 q17 q18 q30 q31 q32
                      go_wp2_with fail
                      go_ret
                      exact ⟨rfl, HBx.out⟩
end Go.Proofs.Ytjlkfoaccllflaa
