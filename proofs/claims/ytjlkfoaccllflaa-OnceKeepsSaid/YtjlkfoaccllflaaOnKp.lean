/-
  Layer once: OnceKeeps.
-/
import Derived.Test.YtjlkfoaccllflaaOnKeepM
import Derived.Test.YtjlkfoaccllflaaSlBase
import Derived.WalkArith
namespace Go.Proofs.Ytjlkfoaccllflaa
open Go.RowKit Go.Gz

theorem zero_arr (w : World) : (zeroValue 45).run Try.prog w = .ok (.agg ((List.range 256).map fun _ => Value.int .i64 0).toArray) w := by kernel_rfl
theorem run_alloc_arr (w : World) : (Instr.alloc 45 true (.tuple #[])).run Try.prog w = .ok (.pointer (some ⟨w.heap.size, 0, none⟩)) (w.alloc (.cells ((List.range 256).map fun _ => Value.int .i64 0).toArray 45)) := by
  have hz := zero_arr w
  generalize ((List.range 256).map fun _ => Value.int .i64 0).toArray = c at hz ⊢
  simp [Instr.alloc, hz, newVar, newRow, Value.cells, Result.andThen, go_sem]
theorem wp_of_run {P : Program} {o : Oper} {a : Act} {w w' : World} {K : Act → World → Prop} {Q : Exit → Act → World → Prop} {v : Value} (h : (execOp a.eval o).run P w = .ok (.value v) w') (hK : K (a.put o.dst v) w') : Oper.wp P o a w K Q := by
  unfold Oper.wp
  rw [h]
  exact hK
/-- slice pointer p reads in w as the pairs of bytes X. -/
def RowQ (w : World) (p : Option Addr) (X : List (UInt8 × UInt8)) : Prop :=
  X = [] ∨ ∃ b off, p = some ⟨b, off, none⟩ ∧ b < w.heap.size ∧ ∀ j, j < X.length → w.cell? ⟨b, off + j * 2, none⟩ = some (.int .u8 (X.getD j (0, 0)).1.toNat) ∧ w.cell? ⟨b, off + j * 2 + 1, none⟩ = some (.int .u8 (X.getD j (0, 0)).2.toNat)
theorem pair_cells {W wr : World} {p : Option Addr} {X : List (UInt8 × UInt8)} (h : RowQ W p X) (hb : Below W.heap.size W wr) {j : Nat} (hj : j < X.length) : ∃ b o, p = some ⟨b, o, none⟩ ∧ b < W.heap.size ∧ wr.cell? ⟨b, o + j * 2, none⟩ = some (.int .u8 (X.getD j (0, 0)).1.toNat) ∧ wr.cell? ⟨b, o + j * 2 + 1, none⟩ = some (.int .u8 (X.getD j (0, 0)).2.toNat) := by
  rcases h with h | ⟨b, o, hp, h1, h2⟩
  · rw [h] at hj; simp at hj
  · exact ⟨b, o, hp, h1, by rw [hb.cell (p := ⟨b, o + j * 2, none⟩) h1]; exact (h2 j hj).1, by rw [hb.cell (p := ⟨b, o + j * 2 + 1, none⟩) h1]; exact (h2 j hj).2⟩

theorem sem_lenS {L : List Ent} {S : List (Int × RepL)} (h : semL L = S) : L.length = S.length := by rw [← h]; simp [semL]
/-- behind so many pairs. -/
structure K2 (w2 : World) (T P : Nat) (j : Nat) (wr : World) : Prop where
  ex : ∃ S, Tab w2 T S j wr ∧ PosS S ∧ LowS S ∧ ArrAt wr P (fun c => lastS S c)

set_option maxHeartbeats 8000000 in
set_option maxRecDepth 1000000 in
theorem keeps_walk (w0 : World) (X : List (UInt8 × UInt8)) (pa : Option Addr) (ca : Nat) (ha : RowQ w0 pa X) (la : X.length ≤ 9223372036854775807) :
    Calls Try.prog 4 #[.slice pa X.length ca] w0 fun e w' => e = .returned (.bool true) ∧ Below w0.heap.size w0 w' := by
  have CA := Lib.hid (awakeOn_yes w0)
  have HA := Lib.hid ha
  obtain ⟨na, hna⟩ : ∃ n, X.length = n := ⟨_, rfl⟩
  have HN := Lib.hid hna
  rw [hna]
  have hnab : (na : Int) ≤ 9223372036854775807 := by omega
  clear ha la hna
  go_enter Try.func4, Try.ntmps4
  go_wp2_with fail
  refine CA.out.mono ?_
  rintro e w1 ⟨rfl, hb1⟩
  have HB1 := Lib.hid hb1
  clear hb1 CA
  rcases Nat.lt_or_ge 200 na with h2 | h2
  · have h2z : (200 : Int) < (na : Int) := by omega
    go_wp2_with fail
    go_ret
    exact ⟨rfl, HB1.out⟩
  have h2z : ¬ (200 : Int) < (na : Int) := by omega
  have hnb : (na : Int) ≤ 200 := by omega
  have CN := Lib.hid (new_any w1)
  clear hnab
  go_wp2_with fail
  refine CN.out.mono ?_
  rintro e w2 ⟨rfl, hT2, hb2⟩
  obtain ⟨T, hT0⟩ : ∃ T, w1.heap.size = T := ⟨_, rfl⟩
  obtain ⟨P, hP0⟩ : ∃ P, w2.heap.size = P := ⟨_, rfl⟩
  rw [hT0] at hT2 hb2 ⊢
  obtain ⟨W, hW⟩ : ∃ W, w2.alloc (.cells ((List.range 256).map fun _ => Value.int .i64 0).toArray 45) = W := ⟨_, rfl⟩
  have hbW : Below w2.heap.size w2 W := hW ▸ (Below.refl _ _).alloc (Nat.le_refl _) _
  have hAW : ArrAt W P (fun _ => 0) := by
    show W.heap[P]? = _
    rw [← hW, ← hP0]
    exact new_block _ _ _
  have HT := Lib.hid (Tab.start hT2 (Kept.refl _ _) hT2.lt)
  have HTW := Lib.hid (HT.out.below hbW)
  have HLT := Lib.hid (show w0.heap.size ≤ T ∧ T < w2.heap.size ∧ P = w2.heap.size from ⟨by rw [← hT0]; exact HB1.out.size, hT2.lt, hP0.symm⟩)
  have HBW := Lib.hid (show Below w0.heap.size w0 W from (HB1.out.trans (hb2.mono HLT.out.1)).trans (hbW.mono (by have := HLT.out; omega)))
  have HAW := Lib.hid hAW
  have HB02 := Lib.hid (HB1.out.trans (hb2.mono HLT.out.1))
  have HW := Lib.hid (And.intro hW hP0)
  clear CN hT2 hb2 hT0 hP0 hW hbW hAW
  go_wp2_with fail
  refine wp_of_run (v := .pointer (some ⟨w2.heap.size, 0, none⟩)) (by simp only [execOp, Sem.run_bind, run_alloc_arr, Result.andThen_ok]; rfl) ?_
  rw [HW.out.1, HW.out.2]
  clear HW
  go_wp2_with fail
  go_loopw [5] (fun i wr => ∃ k : Nat, i = .int .i64 k ∧ k ≤ 256 ∧ Hid (ArrAt wr P (fun i => if i < k then -1 else 0)) ∧ Hid (Kept (fun i => i = P) W wr)) (fun i _ => 256 - (RowKit.intOf i).toNat)
  case atStart => exact ⟨0, rfl, by omega, Lib.hid (HAW.out.same fun i _ => by simp), Lib.hid (Kept.refl _ _)⟩
  case round =>
    obtain ⟨k, rfl, hkn, HI, HJ⟩ := hrel
    rcases Nat.lt_or_ge k 256 with hk | hk
    · have hkz : (k : Int) < 256 := by omega
      have hpos : (0 : Int) ≤ (k : Int) := by omega
      have hcell := HI.out.cell k hk
      have hfz := HI.out.frozen k
      have HQ := Lib.hid (And.intro (HI.out.set (g := fun i => if i < k + 1 then -1 else 0) k (-1) hk (by simp) (fun j hj => by
        by_cases h : j < k
        · simp [h, show j < k + 1 by omega]
        · simp [h, show ¬ j < k + 1 by omega])) (HJ.out.trans (Kept.set (F := fun i => i = P) (a := ⟨P, k, none⟩) (.int .i64 (-1)) rfl) fun _ _ e => e))
      clear HI HJ
      go_wp2_with fail
      exact ⟨⟨k + 1, by go_num, by omega, Lib.hid HQ.out.1, Lib.hid HQ.out.2⟩, by simp [RowKit.intOf]; omega⟩
    · have hkz : ¬ (k : Int) < 256 := by omega
      have hke : k = 256 := by omega
      have har : ArrAt wr P (fun c => lastS [] c) := HI.out.same fun i hi => by rw [hke, if_pos hi]; rfl
      have htb : Tab w2 T [] 0 wr := HTW.out.off HJ.out (by have := HLT.out; omega) ⟨_, _, _, HAW.out⟩ HAW.out.noText
      have HS0 := Lib.hid (show K2 w2 T P 0 wr from ⟨⟨[], htb, (fun y hy => by cases hy), (fun y hy => by cases hy), har⟩⟩)
      have HB2 := Lib.hid HB02.out
      clear har htb HI HJ HAW HTW HT hke
      go_wp2_with fail
      generalize wr = WA at *
      generalize k = k1 at *
      go_loopw [6] (fun i wr => ∃ k : Nat, i = .int .i64 k ∧ k ≤ na ∧ Hid (K2 w2 T P k wr)) (fun i _ => na - (RowKit.intOf i).toNat)
      case atStart => exact ⟨0, rfl, Nat.zero_le _, HS0⟩
      case round =>
        obtain ⟨j, rfl, hjn, HI⟩ := hrel
        obtain ⟨S, htb, hps, hlow, har⟩ := HI.out.ex
        have hbr : Below w0.heap.size w0 wr := HB2.out.trans (htb.kept.below (fun i hi => by have := HLT.out.1; omega) HB2.out.size)
        rcases Nat.lt_or_ge j na with hj | hj
        · have hjz : (j : Int) < (na : Int) := by omega
          have hjpos : (0 : Int) ≤ (j : Int) := by omega
          have hjx : j < X.length := by rw [HN.out]; exact hj
          obtain ⟨qb, qo, rfl, -, hz0, hz1⟩ := pair_cells HA.out hbr hjx
          obtain ⟨c, hcd⟩ : ∃ c, (X.getD j (0, 0)).1.toNat = c := ⟨_, rfl⟩
          obtain ⟨n, hnd⟩ : ∃ n, (X.getD j (0, 0)).2.toNat = n := ⟨_, rfl⟩
          have hc : c < 256 := by rw [← hcd]; exact (X.getD j (0, 0)).1.toNat_lt
          have hn : n < 256 := by rw [← hnd]; exact (X.getD j (0, 0)).2.toNat_lt
          rw [hcd] at hz0
          rw [hnd] at hz1
          have hc0 : (0 : Int) ≤ (c : Int) := by omega
          have hc1 : (c : Int) < 256 := by omega
          have hwc : IntKind.i64.wrap (c : Int) = (c : Int) := by rw [IntKind.wrap_i64]; omega
          have hwn : IntKind.i64.wrap (n : Int) = (n : Int) := by rw [IntKind.wrap_i64]; omega
          have hca := har.cell c hc
          have HTB := Lib.hid htb
          have HAR := Lib.hid har
          have HPL := Lib.hid (And.intro hps hlow)
          clear htb hps hlow har hbr hcd hnd HI
          go_upto_region 16 with fail
          go_quiet (fail)
          have hb5 : Below wr.heap.size wr (wr.drewN nq) := below_drewN (Below.refl _ _) nq
          have HTB5 := Lib.hid (HTB.out.below hb5)
          have HAR5 := Lib.hid (show ArrAt (wr.drewN nq) P (fun c => lastS S c) from HAR.out.block (hb5.block P HAR.out.lt))
          have hca5 := HAR5.out.cell c hc
          try simp only at hca5
          clear hca hb5 hz0 hz1
          generalize wr.drewN nq = w5 at *
          have hju : (j : Int) ≤ 200 := by omega
          obtain ⟨b8, hb8⟩ : ∃ b : UInt8, (b.toNat : Int) = (j : Int) := ⟨UInt8.ofNat j, by rw [UInt8.toNat_ofNat']; omega⟩
          have hwu : IntKind.u8.wrap (j : Int) = (b8.toNat : Int) := by
            have h1 : IntKind.u8.wrap (j : Int) = (j : Int) % 256 := by simp [IntKind.wrap, IntKind.bits, IntKind.signed]
            rw [h1, hb8]; omega
          obtain ⟨R, hR⟩ : ∃ R : RepL, (⟨c, n, 0, false, [b8], [], [], false⟩ : RepL) = R := ⟨_, rfl⟩
          have hRc : R.c = c := by rw [← hR]
          have hRs : R.s = n := by rw [← hR]
          have hRl : R.ls = [] := by rw [← hR]
          obtain ⟨lv, hlv⟩ : ∃ x, lastS S c = x := ⟨_, rfl⟩
          obtain ⟨S', hS'⟩ : ∃ S', noteS S R = S' := ⟨_, rfl⟩
          have hRp : 0 ≤ R.s := by rw [hRs]; omega
          have HLN := Lib.hid (fun x => last_note (c := x) HTB5.out.ord hRp)
          have HLE := Lib.hid (show (n : Int) ≤ lastS S' c from by
            have := last_le HTB5.out.ord hRp
            rwa [hRs, hRc, hS'] at this)
          have HPS := Lib.hid (show PosS S' ∧ LowS S' from hS' ▸ ⟨posS_note HPL.out.1 hRp, lowS_note HPL.out.2 (by rw [hRc]; omega) (by rw [hRc]; omega)⟩)
          have HNW := Lib.hid (show newS S R = decide (lv < n) from by rw [newS_last hRp, hRc, hRs, hlv])
          obtain ⟨W5, hW5⟩ : ∃ W5, w5.alloc (.cells #[.int .u8 b8.toNat] 5) = W5 := ⟨_, rfl⟩
          have hb55 : Below w5.heap.size w5 W5 := hW5 ▸ (Below.refl _ _).alloc (Nat.le_refl _) _
          have hstr : (convert 47 9 (.slice (some ⟨w5.heap.size, 0, none⟩) 1 1)).run Try.prog W5 = .ok (.string ⟨#[b8]⟩) W5 := by
            refine run_string W5 [b8] (some ⟨w5.heap.size, 0, none⟩) 1 (Or.inr ⟨w5.heap.size, 0, rfl, by rw [← hW5]; simp, fun i hi => ?_⟩)
            obtain rfl : i = 0 := by simpa [nums] using hi
            rw [← hW5, cell_at (new_block _ _ _)]
            simp [nums]
          rw [← hW5] at hstr
          have CN := Lib.hid (note_tab2 (HTB5.out.below hb55) (by omega) R none 0 (Or.inl hRl) (by rw [hRl]; simp) (fun _ => rfl) (by rw [hRc]; exact WalkArith.wf_i64 ⟨by omega, by omega⟩))
          rw [HNW.out, hS'] at CN
          have hrep : repV R none 0 = .agg #[.int .i64 c, .int .i64 n, .int .i64 0, .bool false, .string ⟨#[b8]⟩, .slice none 0 0, .string ⟨#[]⟩, .bool false] := by rw [← hR]; rfl
          rw [hrep] at CN
          have HWF := Lib.hid (show (Lit.int .i64 (c : Int)).wf = true from WalkArith.wf_i64 ⟨by omega, by omega⟩)
          have hn0 : (0 : Int) ≤ (n : Int) := by omega
          have HARW := Lib.hid (show ArrAt W5 P (fun c => lastS S c) from HAR5.out.block (hb55.block P HAR5.out.lt))
          have HL5 := Lib.hid (And.intro hlv (And.intro hRc (And.intro hRs hS')))
          have HW5 := Lib.hid hW5
          rw [hlv] at hca5
          clear hb8 hR hRl hRp hlv hS' hb55 hrep hW5 hRc hRs
          by_cases hok : lv < (n : Int)
          · have hgt : (n : Int) > lv := hok
            rw [decide_eq_true hok] at CN
            have HLL := Lib.hid (show lastS S' c = n from by
              have := HLN.out c
              rw [HL5.out.2.2.2, HL5.out.2.1, HL5.out.2.2.1, HL5.out.1, if_pos ⟨rfl, hok⟩] at this
              exact this)
            have HLO := Lib.hid (show ∀ x : Int, x ≠ c → lastS S' x = lastS S x from fun x hx => by
              have := HLN.out x
              rw [HL5.out.2.2.2, HL5.out.2.1, if_neg (fun a => hx a.1.symm)] at this
              exact this)
            go_wp2_with (go_at_call 14; rw [HW5.out]; refine CN.out.mono ?_; rintro e w6 ⟨rfl, htb6, hkp6, hsz6⟩; have har6 := HARW.out.block (hkp6 P _ _ _ HARW.out (by have := HLT.out; omega)); have hfz6 := har6.frozen c; have hcl6 := har6.cell c hc; have H6 := Lib.hid (And.intro htb6 har6); clear htb6 hkp6 hsz6 har6)
            obtain ⟨w7, hw7⟩ : ∃ w7, w6.setCell ⟨P, c, none⟩ (.int .i64 n) = w7 := ⟨_, rfl⟩
            have HAR6 := Lib.hid (show ArrAt w7 P (fun c => lastS S' c) from hw7 ▸ H6.out.2.set (g := fun c => lastS S' c) c n hc HLL.out (fun i hi => HLO.out i (by omega)))
            have HTB6 := Lib.hid (show Tab w2 T S' (j + 1) w7 from hw7 ▸ H6.out.1.off (Kept.set (F := fun i => i = P) (a := ⟨P, c, none⟩) (.int .i64 n) rfl) (by have := HLT.out; omega) ⟨_, _, _, H6.out.2⟩ H6.out.2.noText)
            rw [hw7]
            clear hw7 hfz6 hcl6 H6
            generalize w7 = w6 at *
            have CS := Lib.hid (see_told HTB6.out (c : Int) (n : Int) HWF.out)
            refine CS.out.mono ?_
            rintro e w7 ⟨hb7, r7, p7, k7, hr7, -⟩
            rw [see_last hn0 HLE.out, if_pos HLL.out.symm] at hr7
            subst hr7
            unfold repV
            obtain ⟨w8, hw8⟩ : ∃ w8, w7.alloc (.cells #[.int .i64 r7.c, .int .i64 r7.s, .int .i64 r7.e, .bool r7.fd, .string (strB r7.v), .slice p7 r7.ls.length k7, .string (strB r7.nx), .bool r7.mr] 33) = w8 := ⟨_, rfl⟩
            have hb8 : Below w7.heap.size w7 w8 := hw8 ▸ (Below.refl _ _).alloc (Nat.le_refl _) _
            have hb78 := hb7.trans (hb8.mono hb7.size)
            have har8 : ArrAt w8 P (fun c => lastS S' c) := HAR6.out.block (hb78.block P HAR6.out.lt)
            have HQ8 := Lib.hid (show K2 w2 T P (j + 1) w8 from ⟨⟨S', HTB6.out.below hb78, HPS.out.1, HPS.out.2, har8⟩⟩)
            have x0 := har8.cell c hc
            try simp only at x0
            rw [HLL.out] at x0
            have HW8 := Lib.hid hw8
            clear hb7 hb8 hb78 hw8 har8 CS
            go_upto_region 23 with fail
            rw [HW8.out]
            clear HW8
            go_wp2_with fail
            exact ⟨⟨j + 1, by go_num, hj, HQ8⟩, by simp [RowKit.intOf]; omega⟩
          · have hgt : ¬ (n : Int) > lv := hok
            rw [decide_eq_false hok] at CN
            have HLL := Lib.hid (show lastS S' c = lv from by
              have := HLN.out c
              rw [HL5.out.2.2.2, HL5.out.2.1, HL5.out.2.2.1, HL5.out.1, if_neg (fun a => hok a.2)] at this
              exact this)
            have HLO := Lib.hid (show ∀ x : Int, lastS S' x = lastS S x from fun x => by
              have := HLN.out x
              rw [HL5.out.2.2.2, HL5.out.2.1, HL5.out.2.2.1, HL5.out.1, if_neg (fun a => hok a.2)] at this
              exact this)
            go_wp2_with (go_at_call 14; rw [HW5.out]; refine CN.out.mono ?_; rintro e w6 ⟨rfl, htb6, hkp6, hsz6⟩; have har6 := HARW.out.block (hkp6 P _ _ _ HARW.out (by have := HLT.out; omega)); have HAR6 := Lib.hid (show ArrAt w6 P (fun c => lastS S' c) from har6.same fun i _ => HLO.out i); have HTB6 := Lib.hid htb6; clear htb6 hkp6 hsz6 har6)
            by_cases hle : (n : Int) = lv
            · subst hle
              have CS := Lib.hid (see_told HTB6.out (c : Int) (n : Int) HWF.out)
              refine CS.out.mono ?_
              rintro e w7 ⟨hb7, r7, p7, k7, hr7, -⟩
              rw [see_last hn0 HLE.out, if_pos HLL.out.symm] at hr7
              subst hr7
              unfold repV
              obtain ⟨w8, hw8⟩ : ∃ w8, w7.alloc (.cells #[.int .i64 r7.c, .int .i64 r7.s, .int .i64 r7.e, .bool r7.fd, .string (strB r7.v), .slice p7 r7.ls.length k7, .string (strB r7.nx), .bool r7.mr] 33) = w8 := ⟨_, rfl⟩
              have hb8 : Below w7.heap.size w7 w8 := hw8 ▸ (Below.refl _ _).alloc (Nat.le_refl _) _
              have hb78 := hb7.trans (hb8.mono hb7.size)
              have har8 : ArrAt w8 P (fun c => lastS S' c) := HAR6.out.block (hb78.block P HAR6.out.lt)
              have HQ8 := Lib.hid (show K2 w2 T P (j + 1) w8 from ⟨⟨S', HTB6.out.below hb78, HPS.out.1, HPS.out.2, har8⟩⟩)
              have x0 := har8.cell c hc
              try simp only at x0
              rw [HLL.out] at x0
              have HW8 := Lib.hid hw8
              clear hb7 hb8 hb78 hw8 har8 CS
              go_upto_region 23 with fail
              rw [HW8.out]
              clear HW8
              go_wp2_with fail
              exact ⟨⟨j + 1, by go_num, hj, HQ8⟩, by simp [RowKit.intOf]; omega⟩
            · have hlt : (n : Int) < lv := by omega
              have hne : ¬ (n : Int) = lv := hle
              have CS := Lib.hid (see_told HTB6.out (c : Int) (n : Int) HWF.out)
              refine CS.out.mono ?_
              rintro e w7 ⟨hb7, r7, p7, k7, hr7, -⟩
              rw [see_last hn0 HLE.out, if_neg (fun h => hle (h.trans HLL.out))] at hr7
              subst hr7
              unfold repV
              obtain ⟨w8, hw8⟩ : ∃ w8, w7.alloc (.cells #[.int .i64 r7.c, .int .i64 r7.s, .int .i64 r7.e, .bool r7.fd, .string (strB r7.v), .slice p7 r7.ls.length k7, .string (strB r7.nx), .bool r7.mr] 33) = w8 := ⟨_, rfl⟩
              have hb8 : Below w7.heap.size w7 w8 := hw8 ▸ (Below.refl _ _).alloc (Nat.le_refl _) _
              have hb78 := hb7.trans (hb8.mono hb7.size)
              have har8 : ArrAt w8 P (fun c => lastS S' c) := HAR6.out.block (hb78.block P HAR6.out.lt)
              have HQ8 := Lib.hid (show K2 w2 T P (j + 1) w8 from ⟨⟨S', HTB6.out.below hb78, HPS.out.1, HPS.out.2, har8⟩⟩)
              have x0 := har8.cell c hc
              try simp only at x0
              rw [HLL.out] at x0
              have HW8 := Lib.hid hw8
              clear hb7 hb8 hb78 hw8 har8 CS
              go_upto_region 23 with fail
              rw [HW8.out]
              clear HW8
              go_wp2_with fail
              exact ⟨⟨j + 1, by go_num, hj, HQ8⟩, by simp [RowKit.intOf]; omega⟩
        · have hjz : ¬ (j : Int) < (na : Int) := by omega
          have CL := Lib.hid (all_tab htb (by omega))
          have HPS := Lib.hid (And.intro hps (And.intro hlow htb.ord))
          have HAR := Lib.hid har
          have HSL := Lib.hid (show S.length ≤ 200 by have := htb.len; omega)
          have HBR := Lib.hid hbr
          clear htb hps hlow har hbr HI
          go_wp2_with fail
          refine CL.out.mono ?_
          rintro e w3 ⟨v, M, rfl, ho3, hs3, -, -, hb3⟩
          obtain ⟨mp, mc, rfl, -, -, hmr, -⟩ := ho3.row
          obtain ⟨m, hm⟩ : ∃ m, M.length = m := ⟨_, rfl⟩
          rw [hm]
          have HM := Lib.hid (And.intro hm (And.intro hs3 hmr))
          have HA3 := Lib.hid (HAR.out.block (hb3.block P HAR.out.lt))
          have HB3 := Lib.hid (HBR.out.trans (hb3.mono HBR.out.size))
          have hmb : (m : Int) ≤ 200 := by
            have h1 := sem_lenS hs3
            have h2 := HSL.out
            omega
          clear hm hs3 hmr ho3 hb3 CL
          go_wp2_with fail
          generalize wr = WB at *
          generalize j = j1 at *
          go_loopw [13, 14] (fun q i wx => ∃ c k : Nat, i = .int .i64 c ∧ q = .int .i64 k ∧ c ≤ 256 ∧ Hid (IdxAt sk S c k) ∧ Hid (Below w3.heap.size w3 wx)) (fun _ i _ => 256 - (RowKit.intOf i).toNat)
          case atStart => exact ⟨0, 0, rfl, rfl, by omega, Lib.hid (IdxAt.start fun e he => (HPS.out.2.1 e he).1), Lib.hid (Below.refl _ _)⟩
          case round =>
            obtain ⟨c, k, rfl, rfl, hc6, HIX, HBX⟩ := hrel
            have hkm : k ≤ m := by have := HIX.out.le; have h1 := sem_lenS HM.out.2.1; have := HM.out.1; omega
            rcases Nat.lt_or_ge c 256 with hc | hc
            · have hcz : (c : Int) < 256 := by omega
              have hc0 : (0 : Int) ≤ (c : Int) := by omega
              have har := HA3.out.block (HBX.out.block P HA3.out.lt)
              have x0 := har.cell c hc
              try simp only at x0
              obtain ⟨lv, hlv⟩ : ∃ x, lastS S c = x := ⟨_, rfl⟩
              rw [hlv] at x0
              have HLV := Lib.hid hlv
              clear hlv har
              by_cases hneg : lv < 0
              · have HQ := Lib.hid (show IdxAt sk S ((c + 1 : Nat) : Int) k from by
                  have h1 := HIX.out.none HPS.out.2.2 ((last_neg HPS.out.1 c).1 (by rw [HLV.out]; exact hneg))
                  rw [show ((c + 1 : Nat) : Int) = (c : Int) + 1 by omega]
                  exact h1)
                go_wp2_with fail
                exact ⟨⟨c + 1, k, by go_num, rfl, by omega, HQ, HBX⟩, by simp [RowKit.intOf]; omega⟩
              · obtain ⟨y, hy⟩ : ∃ y, findK sk c S = some y := by
                  cases hf : findK sk c S with
                  | none => exact absurd ((last_neg HPS.out.1 c).2 hf) (by rw [HLV.out]; exact hneg)
                  | some y => exact ⟨y, rfl⟩
                have hyl : y.1 = lv := by
                  have := HLV.out
                  unfold lastS at this
                  rw [hy] at this
                  exact this
                obtain ⟨hkS, hkY, hix⟩ := HIX.out.some HPS.out.2.2 hy
                have hkM : k < M.length := by have := sem_lenS HM.out.2.1; omega
                obtain ⟨e, he⟩ : ∃ e, M.getD k default = e := ⟨_, rfl⟩
                have hes : e.sem = y := by
                  rw [← hkY, ← HM.out.2.1, ← he]
                  simp [semL, List.getD, hkM]
                have hec : e.r.c = c := by
                  have := (findK_mem hy).2
                  rw [← hes] at this
                  exact this
                have hel : e.s = lv := by rw [← hyl, ← hes]; rfl
                obtain ⟨pb, po, rfl, -, hce⟩ := ent_cells HM.out.2.2 HBX.out hkM
                rw [he] at hce
                have z0 := hce 0 (by decide)
                have z1 := hce 1 (by decide)
                simp only [Ent.list, Nat.add_zero] at z0 z1
                rw [show ([Value.int .i64 e.s, .int .i64 e.r.c, .int .i64 e.r.s, .int .i64 e.r.e, .bool e.r.fd, .string (strB e.r.v), .slice e.p e.r.ls.length e.k, .string (strB e.r.nx), .bool e.r.mr])[0]? = some (.int .i64 lv) by rw [← hel]; rfl] at z0
                rw [show ([Value.int .i64 e.s, .int .i64 e.r.c, .int .i64 e.r.s, .int .i64 e.r.e, .bool e.r.fd, .string (strB e.r.v), .slice e.p e.r.ls.length e.k, .string (strB e.r.nx), .bool e.r.mr])[1]? = some (.int .i64 c) by rw [← hec]; rfl] at z1
                have hkz : (k : Int) < (m : Int) := by have := HM.out.1; omega
                have hk0 : (0 : Int) ≤ (k : Int) := by omega
                have hge : decide ((k : Int) ≥ (m : Int)) = false := decide_eq_false (by omega)
                have hge2 : ¬ (m : Int) ≤ (k : Int) := by omega
                have HQ := Lib.hid (show IdxAt sk S ((c + 1 : Nat) : Int) (k + 1) from by
                  rw [show ((c + 1 : Nat) : Int) = (c : Int) + 1 by omega]
                  exact hix)
                clear hy hyl hkS hkY hix hkM he hes hec hel hce HIX
                go_upto_region 31 with fail
                go_quiet (fail)
                have HBY := Lib.hid (show Below w3.heap.size w3 (wr.drewN nq) from below_drewN HBX.out nq)
                clear x0 z0 z1 hge hge2
                go_wp2_with fail
                exact ⟨⟨c + 1, k + 1, by go_num, by go_num, by omega, HQ, HBY⟩, by simp [RowKit.intOf]; omega⟩
            · have hcz : ¬ (c : Int) < 256 := by omega
              have hke : k = m := by
                have h1 := HIX.out.all (fun e he => by have := (HPS.out.2.1 e he).2; omega)
                have h2 := sem_lenS HM.out.2.1
                have := HM.out.1
                omega
              subst hke
              have HBF := Lib.hid (HB3.out.trans (HBX.out.mono HB3.out.size))
              clear HIX HBX
              go_wp2_with fail
              go_ret
              exact ⟨rfl, HBF.out⟩
end Go.Proofs.Ytjlkfoaccllflaa
