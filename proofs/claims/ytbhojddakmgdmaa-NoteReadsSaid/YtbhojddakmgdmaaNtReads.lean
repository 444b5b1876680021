/-
  NoteReads: the walk.
-/
import Derived.Test.YtbhojddakmgdmaaMg31
import Derived.Test.YtbhojddakmgdmaaNtLen
import Derived.Test.YtbhojddakmgdmaaMg27
import Derived.Test.YtbhojddakmgdmaaMg10
import Derived.Deep.CutRange
import Derived.LoopTactic
import Derived.StillTailTactics
namespace Go.Proofs.Ytbhojddakmgdmaa
open Go.RowKit Go.Gz

theorem own_blk {w : World} {B : Nat} {e : TypeId} {k : IntKind} {v : Value} {xs : List Int} (h : Own w B e k v xs) (h0 : 0 < xs.length) : ∃ g cap, v = .slice (some ⟨g, 0, none⟩) xs.length cap ∧ B ≤ g ∧ g < w.heap.size := by
  obtain ⟨_, ⟨_, h2⟩ | ⟨g, cap, cur, rfl, hg, hh, _⟩⟩ := h
  · omega
  · exact ⟨g, cap, rfl, hg, (Array.getElem?_eq_some_iff.1 hh).1⟩
theorem own_at8 {w : World} {B g n cap : Nat} {l : List UInt8} (h : Own w B 5 .u8 (.slice (some ⟨g, 0, none⟩) n cap) (nums l)) : n = l.length ∧ ∀ j, j < n → w.cell? ⟨g, j, none⟩ = some (.int .u8 ((l.getD j 0).toNat : Int)) ∧ w.frozen? ⟨g, j, none⟩ = false := by
  obtain ⟨h1, ⟨h0, _⟩ | ⟨g', cap', cur, hv, hg, hh, hc, hm, hs, ht⟩⟩ := h
  · cases h0
  · injection hv with hp hn hcc
    injection hp with hp
    injection hp with hp _ _
    subst hp; subst hcc; subst hn
    rw [nums_length] at ht ⊢
    refine ⟨rfl, fun j hj => ⟨?_, ?_⟩⟩
    · have e1 : cur[j]? = some (.int .u8 ((l.getD j 0).toNat : Int)) := by
        have := congrArg (·[j]?) ht
        simp only [Nat.mul_one, List.getElem?_take, hj, if_true, Array.getElem?_toList, List.getElem?_map] at this
        have hj2 : j < (nums l).length := by rw [nums_length]; exact hj
        rw [this, ← nums_getD _ _ hj, List.getD, List.getElem?_eq_getElem hj2]
        rfl
      simp only [World.cell?, hh]
      exact e1
    · simp only [World.frozen?, hh]
      simp
theorem own_set8 {w : World} {B g n cap : Nat} {l : List UInt8} (h : Own w B 5 .u8 (.slice (some ⟨g, 0, none⟩) n cap) (nums l)) (j : Nat) (hj : j < n) (y : UInt8) : Own (w.setCell ⟨g, j, none⟩ (.int .u8 (y.toNat : Int))) B 5 .u8 (.slice (some ⟨g, 0, none⟩) n cap) (nums (l.set j y)) := by
  have e : nums (l.set j y) = (nums l).set j (y.toNat : Int) := by unfold nums; rw [List.map_set]
  rw [e]
  obtain ⟨h1, ⟨h0, _⟩ | ⟨g', cap', cur, hv, hg, hh, hc, hm, hs, ht⟩⟩ := h
  · cases h0
  · injection hv with hp hn hcc
    injection hp with hp
    injection hp with hp _ _
    subst hp; subst hcc; subst hn
    refine ⟨by simp, Or.inr ⟨g, cap, cur.setIfInBounds j (.int .u8 (y.toNat : Int)), by simp, hg, by simp [World.setCell, Array.getElem?_modify, hh], by simpa using hc, hm, by simpa using hs, ?_⟩⟩
    rw [List.length_set, Nat.mul_one] at *
    rw [Array.toList_setIfInBounds, List.take_set, ht, List.map_set]
theorem bits_xor8 (a b : Nat) (ha : a < 256) (hb : b < 256) : bits .xor .u8 (a : Int) (b : Int) = ((a ^^^ b : Nat) : Int) := by
  have ha' : a % 2 ^ IntKind.u8.bits = a := Nat.mod_eq_of_lt ha
  have hb' : b % 2 ^ IntKind.u8.bits = b := Nat.mod_eq_of_lt hb
  have hx : a ^^^ b < 2 ^ 8 := Nat.xor_lt_two_pow ha hb
  simp only [bits, BitVec.ofInt_natCast, BitVec.toNat_xor, BitVec.toNat_ofNat, ha', hb']
  exact wraps_u8 _ (Int.natCast_nonneg _) (by exact_mod_cast hx)
theorem xor_u8 (x y : UInt8) : bits .xor .u8 (x.toNat : Int) (y.toNat : Int) = ((UInt8.ofNat (x.toNat ^^^ y.toNat)).toNat : Int) := by
  have hlt : x.toNat ^^^ y.toNat < 256 := Nat.xor_lt_two_pow (n := 8) (Nat.lt_succ_of_le (u8_lt x)) (Nat.lt_succ_of_le (u8_lt y))
  rw [bits_xor8 _ _ (Nat.lt_succ_of_le (u8_lt x)) (Nat.lt_succ_of_le (u8_lt y)), UInt8.toNat_ofNat', Nat.mod_eq_of_lt hlt]
theorem pack_pos {n : NtL} {Y : List UInt8} (h : packN n = some Y) : 0 < Y.length := by
  obtain ⟨x, _, h2, _⟩ := lay_packed (pack_lay h)
  rw [h2]
  show 0 < (be4 x.1 ++ _).length
  simp [be4]

set_option maxHeartbeats 32000000 in
set_option maxRecDepth 100000 in
theorem reads_n (l : List UInt8) (p : Option Addr) (cp : Nat) (n : NtL) (P : NtP) (w : World) (hp : Row w .u8 p (nums l)) (hl : l.length ≤ 9223372036854775807) (ha : NtAg w n P) : Calls Try.prog 3 #[.slice p l.length cp, ntV n P] w fun e w' => e = .returned (.bool true) ∧ Below w.heap.size w w' := by
  have HA := Lib.hid ha
  have HP := Lib.hid (fun w1 (h : Below w.heap.size w w1) => hp.below h)
  obtain ⟨N, hN⟩ : ∃ N, l.length = N := ⟨_, rfl⟩
  have CRD := Lib.hid (fun w1 (h : Row w1 .u8 p (nums l)) (h2 : l.length ≤ 1000000) => read_n l p cp w1 h h2)
  have HXS := Lib.hid (fun w1 (h : Below w.heap.size w w1) => run_string w1 l p cp (hp.below h))
  rw [hN] at hl HXS ⊢
  simp only [hN] at CRD
  have hlz : (N : Int) ≤ 9223372036854775807 := by omega
  have HN := Lib.hid hN
  have CSA := Lib.hid (fun w1 h => smallT_any n P w1 h)
  have CMA := Lib.hid (fun w1 h h1 h2 => noteMade_any n P w1 h h1 h2)
  have CPA := Lib.hid (fun P2 w1 h1 h2 => pack_n n P2 w1 h1 h2)
  unfold ntV at CSA CMA CPA ⊢
  obtain ⟨c, hc⟩ : ∃ c, (ntList n P).toArray = c := ⟨_, rfl⟩
  rw [hc] at CSA CMA ⊢
  have hcs : c.size = 27 := by rw [← hc]; rfl
  have HIC := Lib.hid (show (Try.prog.info? 36).map (·.size) = some c.size by rw [hcs]; kernel_rfl)
  obtain ⟨W, hW⟩ : ∃ W, w.alloc (.cells c 36) = W := ⟨_, rfl⟩
  have hb1 : Below w.heap.size w W := hW ▸ (Below.refl _ _).alloc (Nat.le_refl _) _
  have HBW := Lib.hid hb1
  have HZ := Lib.hid (show W.heap.size = w.heap.size + 1 by rw [← hW]; simp)
  have HXA := Lib.hid (show ∀ w1, Below W.heap.size W w1 → w1.heap[w.heap.size]? = some (.cells c 36 (0, 0)) from fun w1 h => by
    rw [h.block _ (by have := HZ.out; omega), ← hW]; exact new_block _ _ _)
  have HW := Lib.hid hW
  have C0 := Lib.hid (awake_n W)
  clear hc hcs hW hb1 ha hp hl hN
  go_enter Try.func3, Try.ntmps3
  go_upto_region 1 with fail
  rw [HW.out]
  go_wp2_with fail
  refine C0.out.mono ?_
  rintro e w1 ⟨rfl, hb1⟩
  have HB1 := Lib.hid hb1
  have HA1 := Lib.hid (HXA.out w1 hb1)
  have HW1 := Lib.hid (HBW.out.trans (hb1.mono HBW.out.size))
  have C1 := Lib.hid (CSA.out w1 (HA.out.below HW1.out))
  clear hb1
  by_cases hbig : N ≤ 20000
  case neg =>
    have hbz : (20000 : Int) < (N : Int) := by omega
    have hbd : decide ((20000 : Int) < (N : Int)) = true := decide_eq_true hbz
    go_wp2_with fail
    go_ret
    exact ⟨rfl, HW1.out⟩
  have hbz : ¬ (20000 : Int) < (N : Int) := by omega
  have hbd : decide ((20000 : Int) < (N : Int)) = false := decide_eq_false hbz
  go_wp2_with (refine wpList_load_rowW (by simp [Region.wanted, yielded, Act.put]) 36 (.tmp 3) rfl w.heap.size rfl 36 c (0, 0) _ HA1.out Try.underlying36 rfl HIC.out ?_)
  refine C1.out.mono ?_
  rintro e w2 ⟨b2, rfl, hf2, hb2⟩
  have HB2 := Lib.hid (HB1.out.trans (hb2.mono HB1.out.size))
  have HF2 := Lib.hid hf2
  have HW2 := Lib.hid (HBW.out.trans (HB2.out.mono HBW.out.size))
  clear hb2 hf2
  cases b2 with
  | false =>
    go_wp2_with fail
    go_ret
    exact ⟨rfl, HW2.out⟩
  | true =>
  have HFA := Lib.hid (HF2.out rfl).1
  have HLI := Lib.hid (HF2.out rfl).2
  have HLN := Lib.hid (show l.length ≤ 1000000 by rw [HN.out]; omega)
  have CR := Lib.hid (CRD.out w2 (HP.out w2 HW2.out) (show N ≤ 1000000 by omega))
  clear HF2 C0 C1 CSA CRD HA1 HW1
  go_wp2_with fail
  refine CR.out.mono ?_
  rintro e w3 ⟨n1, P1, E, rfl, hb3, hin3, hcase⟩
  have HB3 := Lib.hid (HB2.out.trans (hb3.mono HB2.out.size))
  have HW3 := Lib.hid (HBW.out.trans (HB3.out.mono HBW.out.size))
  have HIN3 := Lib.hid hin3
  have CP1 := Lib.hid (fun w1 h1 h2 => pack_n n1 P1 w1 h1 h2)
  have CM1 := Lib.hid (fun w1 h1 h2 => may_n n1 P1 w1 h1 h2)
  unfold ntV at CP1 CM1 ⊢
  obtain ⟨c3, hc3⟩ : ∃ c, (ntList n1 P1).toArray = c := ⟨_, rfl⟩
  rw [hc3] at CP1 CM1 ⊢
  have hcs3 : c3.size = 27 := by rw [← hc3]; rfl
  have HS3 := Lib.hid (show (Try.prog.info? 44).map (·.size) = some c3.size by rw [hcs3]; exact info_note)
  have HO3 := Lib.hid (show c3.all (·.oneCell') = true by rw [← hc3]; exact nt_one n1 P1)
  have HST3 := Lib.hid (note_store w3 c3 w3.heap.size rfl hcs3)
  obtain ⟨W4, hW4⟩ : ∃ W4, w3.alloc (.cells c3 44) = W4 := ⟨_, rfl⟩
  have hb4 : Below w3.heap.size w3 W4 := hW4 ▸ (Below.refl _ _).alloc (Nat.le_refl _) _
  have HC4 := Lib.hid (show W4.heap[w3.heap.size]? = some (.cells c3 44 (0, 0)) from hW4 ▸ new_block _ _ _)
  have HB4 := Lib.hid (HB3.out.trans (hb4.mono HB3.out.size))
  have HW4w := Lib.hid (HBW.out.trans (HB4.out.mono HBW.out.size))
  have HIN4 := Lib.hid (HIN3.out.below hb4)
  have HW4 := Lib.hid hW4
  have HCS := Lib.hid hcase
  clear hb3 hin3 hc3 hcs3 hW4 hb4 CR hcase
  go_upto_region 6 with (with_reducible refine wpList_store_row rfl 44 (.tmp 5) (.tmp 29) rfl w3.heap.size c3 rfl rfl 44 noteZ HST3.out.1 HS3.out HST3.out.2.1 HO3.out ?_)
  rw [HST3.out.2.2, HW4.out]
  rcases HCS.out with ⟨rfl, x3, hr3, hof3, hso3⟩ | ⟨rfl, -, -⟩
  · obtain ⟨Y3, hY3⟩ := Option.isSome_iff_exists.1 hso3
    obtain rfl : l = Y3 := (read_pack hr3 hof3 (pack_lay hY3)).symm
    have CP := Lib.hid (CP1.out W4 HIN4.out (nt_small hr3 hof3 HLN.out).1)
    have CMY := Lib.hid (fun w1 h => CM1.out w1 h (nt_small hr3 hof3 HLN.out).1)
    rw [hY3] at CP CMY
    clear hr3 hof3 hso3 hY3
    go_wp2_with (with_reducible refine wpList_load_row rfl 44 (.tmp 5) rfl w3.heap.size rfl 44 c3 (0, 0) _ HC4.out Try.underlying44 rfl HS3.out ?_)
    refine CP.out.mono ?_
    rintro e w5 ⟨v5, rfl, ho5, hb5⟩
    obtain ⟨q5, d5, rfl, -, -, hr5⟩ := own_row ho5
    rw [show ((some l).getD [] : List UInt8) = l from rfl] at hr5
    rw [show (nums ((some l).getD [])).length = N from by rw [nums_length]; exact HN.out]
    rw [show errP (some l) = 0 from rfl]
    have HB5 := Lib.hid (HB4.out.trans (hb5.mono HB4.out.size))
    have HW5 := Lib.hid (HBW.out.trans (HB5.out.mono HBW.out.size))
    have HC5 := Lib.hid (show w5.heap[w3.heap.size]? = some (.cells c3 44 (0, 0)) by rw [hb5.block _ (Array.getElem?_eq_some_iff.1 HC4.out).1]; exact HC4.out)
    have hx0 := HXS.out w5 HW5.out
    have hx1 := run_string w5 l q5 d5 hr5
    rw [HN.out] at hx1
    have CM5 := Lib.hid (CMY.out w5 (HIN4.out.below hb5))
    obtain ⟨t5, ht5⟩ : ∃ s : ByteArray, (⟨l.toArray⟩ : ByteArray) = s := ⟨_, rfl⟩
    rw [ht5] at hx0 hx1
    have hne : (t5.toList != t5.toList) = false := bne_self_eq_false _
    clear ho5 hb5 hr5 ht5 CP CMY
    go_wp2_with (first | (refine wpList_load_rowW (by simp [Region.wanted, yielded, Act.put]) 44 (.tmp 5) rfl w3.heap.size rfl 44 c3 (0, 0) _ HC5.out Try.underlying44 rfl HS3.out ?_))
    refine CM5.out.mono ?_
    rintro e w6 ⟨rfl, hb6⟩
    have HB6 := Lib.hid (HB5.out.trans (hb6.mono HB5.out.size))
    have HW6 := Lib.hid (HBW.out.trans (HB6.out.mono HBW.out.size))
    clear hb6 hx0 hx1 hne
    go_upto_region 10 with fail
    have HAX := Lib.hid (HXA.out w6 HB6.out)
    have CMX := Lib.hid (CMA.out w6 (HA.out.below HW6.out) (Nat.le_trans HFA.out.al (by decide)) (Nat.le_trans HFA.out.hl (by decide)))
    go_wp2_with (with_reducible refine wpList_load_row rfl 36 (.tmp 3) rfl w.heap.size rfl 36 c (0, 0) _ HAX.out Try.underlying36 rfl HIC.out ?_)
    refine CMX.out.mono ?_
    rintro e w7 ⟨P2, rfl, hb7, hin7, -, -, -⟩
    have HW7 := Lib.hid (HW6.out.trans (hb7.mono HW6.out.size))
    have CPX := Lib.hid (CPA.out P2 w7 hin7 (few_sm HFA.out))
    unfold ntV
    obtain ⟨c7, hc7⟩ : ∃ c, (ntList n P2).toArray = c := ⟨_, rfl⟩
    rw [hc7] at CPX ⊢
    clear hb7 hin7 hc7 CMX CMA
    go_wp2_with fail
    refine CPX.out.mono ?_
    rintro e w8 ⟨v8, rfl, ho8, hb8⟩
    have HW8 := Lib.hid (HW7.out.trans (hb8.mono HW7.out.size))
    have HS7 := Lib.hid HW7.out.size
    clear hb8 CPX CPA
    obtain ⟨S8, hS8⟩ : ∃ S, packN n = S := ⟨_, rfl⟩
    rw [hS8] at ho8 ⊢
    rcases Option.eq_none_or_eq_some S8 with rfl | ⟨Y, rfl⟩
    · obtain ⟨q8, d8, rfl, -, -, -⟩ := own_row ho8
      rw [show errP (none : Option (List UInt8)) = 1 from rfl]
      clear ho8 hS8
      go_wp2_with fail
      go_ret
      exact ⟨rfl, HW8.out⟩
    have HY1 := Lib.hid (pack_len hS8 HFA.out HLI.out)
    rw [show ((some Y).getD [] : List UInt8) = Y from rfl] at ho8
    rw [show errP (some Y) = 0 from rfl]
    obtain ⟨g, cap, rfl, hgB, hgl⟩ := own_blk ho8 (by rw [nums_length]; exact pack_pos hS8)
    rw [nums_length] at ho8 ⊢
    obtain ⟨M, hM⟩ : ∃ M, Y.length = M := ⟨_, rfl⟩
    rw [hM] at ho8 HY1 ⊢
    have HO8 := Lib.hid ho8
    have HGB := Lib.hid (And.intro hgB hgl)
    have hMz : (M : Int) ≤ 1000000 := by have := HY1.out; omega
    clear ho8 hgB hgl hM hS8
    go_wp2_with fail
    go_loopw [11] (fun i wr => ∃ (k : Nat) (l2 : List UInt8), i = .int .i64 k ∧ k ≤ N ∧ Hid (Own wr w7.heap.size 5 .u8 (.slice (some ⟨g, 0, none⟩) M cap) (nums l2)) ∧ Hid (KeptF (fun j => j = g) w8 wr)) (fun i _ => N - (RowKit.intOf i).toNat)
    case atStart => exact ⟨0, Y, rfl, Nat.zero_le _, HO8, Lib.hid (KeptF.refl _ _)⟩
    case round =>
      obtain ⟨k, l2, rfl, hkN, HO, HK⟩ := hrel
      have HBR := Lib.hid (show Below w.heap.size w wr from HW8.out.trans (HK.out.below (B := w.heap.size) (fun j h => by have h : j = g := h; have := HGB.out.1; have := HS7.out; omega) HW8.out.size))
      by_cases hk : k < N
      · have hkz : (k : Int) < (N : Int) := by omega
        by_cases hkm : k < M
        · have hkmz : (k : Int) < (M : Int) := by omega
          obtain ⟨bb, bo, rfl, hbb, hcb⟩ := byte_cell (HP.out w (Below.refl _ _)) HBR.out (show k < l.length by rw [HN.out]; exact hk)
          obtain ⟨z, hz⟩ : ∃ z, l.getD k 0 = z := ⟨_, rfl⟩
          rw [hz] at hcb
          have hz8 : (z.toNat : Int) ≤ 255 := by have := u8_lt z; omega
          obtain ⟨x, hx⟩ : ∃ x, l2.getD k 0 = x := ⟨_, rfl⟩
          obtain ⟨hM2, hc2⟩ := own_at8 HO.out
          obtain ⟨cx, fx⟩ := hc2 k hkm
          rw [hx] at cx
          have hxor := xor_u8 x z
          obtain ⟨y, hy⟩ : ∃ y, UInt8.ofNat (x.toNat ^^^ z.toNat) = y := ⟨_, rfl⟩
          rw [hy] at hxor
          have HCX := Lib.hid (And.intro cx fx)
          have hx8 : (x.toNat : Int) ≤ 255 := by have := u8_lt x; omega
          clear hM2 hc2 hx hz hy
          go_upto_region 17 with fail
          · go_still_tail 10, mixedAt
            change wpList _ _ _ _ _ wr.drew
            have hbd : Below wr.heap.size wr wr.drew := (Below.refl _ _).drew
            have hgw : g < wr.heap.size := by have := HK.out.size; have := HGB.out.2; omega
            have c4 : wr.drew.cell? ⟨g, k, none⟩ = some (.int .u8 (x.toNat : Int)) := by rw [hbd.cell (p := ⟨g, k, none⟩) hgw]; exact HCX.out.1
            have f4 : wr.drew.frozen? ⟨g, k, none⟩ = false := by rw [hbd.frozen (p := ⟨g, k, none⟩) hgw]; exact HCX.out.2
            have HOd := Lib.hid (below_own HO.out hbd)
            have HKd := Lib.hid (show KeptF (fun j => j = g) w8 (wr.drew.setCell ⟨g, k, none⟩ (.int .u8 (y.toNat : Int))) from (HK.out.drew).set (p := ⟨g, k, none⟩) rfl _)
            clear hbd cx fx hcb
            go_wp2_with fail
            exact ⟨⟨k + 1, l2.set k y, by go_num, hk, Lib.hid (own_set8 HOd.out k hkm y), HKd⟩, by simp [RowKit.intOf]; omega⟩
          · exact ⟨⟨k + 1, l2, by go_num, hk, HO, HK⟩, by simp [RowKit.intOf]; omega⟩
        · have hkmz : ¬ (k : Int) < (M : Int) := by omega
          have hkd : decide ((k : Int) < (M : Int)) = false := decide_eq_false hkmz
          have HM2 := Lib.hid (show l2.length = M from (own_at8 HO.out).1.symm)
          have HRX := Lib.hid (fun w1 (h : Below wr.heap.size wr w1) => (own_in HO.out).below h)
          have HXX := Lib.hid (fun w1 (h : Below wr.heap.size wr w1) => run_string w1 l2 (some ⟨g, 0, none⟩) cap ((own_in HO.out).below h))
          have CR2 := Lib.hid (read_n l2 (some ⟨g, 0, none⟩) cap wr (own_in HO.out) (by rw [HM2.out]; exact HY1.out))
          rw [HM2.out] at CR2 HXX
          clear HO HK
          go_wp2_with fail
          refine CR2.out.mono ?_
          rintro e w9 ⟨n9, P9, E9, rfl, hb9, hin9, hcase9⟩
          have HW9 := Lib.hid (HBR.out.trans (hb9.mono HBR.out.size))
          have HB9 := Lib.hid hb9
          have CP9 := Lib.hid (fun w1 h1 h2 => pack_n n9 P9 w1 h1 h2)
          unfold ntV at CP9 ⊢
          obtain ⟨c9, hc9⟩ : ∃ c, (ntList n9 P9).toArray = c := ⟨_, rfl⟩
          rw [hc9] at CP9 ⊢
          have hcs9 : c9.size = 27 := by rw [← hc9]; rfl
          have HS9 := Lib.hid (show (Try.prog.info? 44).map (·.size) = some c9.size by rw [hcs9]; exact info_note)
          have HO9 := Lib.hid (show c9.all (·.oneCell') = true by rw [← hc9]; exact nt_one n9 P9)
          have HST9 := Lib.hid (note_store w9 c9 w9.heap.size rfl hcs9)
          obtain ⟨W10, hW10⟩ : ∃ W10, w9.alloc (.cells c9 44) = W10 := ⟨_, rfl⟩
          have hb10 : Below w9.heap.size w9 W10 := hW10 ▸ (Below.refl _ _).alloc (Nat.le_refl _) _
          have HC10 := Lib.hid (show W10.heap[w9.heap.size]? = some (.cells c9 44 (0, 0)) from hW10 ▸ new_block _ _ _)
          have HB10 := Lib.hid (HB9.out.trans (hb10.mono HB9.out.size))
          have HIN10 := Lib.hid (hin9.below hb10)
          have HW10w := Lib.hid (HW9.out.trans (hb10.mono HW9.out.size))
          have HW10 := Lib.hid hW10
          have HCS9 := Lib.hid hcase9
          clear hb9 hin9 hc9 hcs9 hW10 hb10 CR2 hcase9
          go_upto_region 19 with (with_reducible refine wpList_store_row rfl 44 (.tmp 12) (.tmp 97) rfl w9.heap.size c9 rfl rfl 44 noteZ HST9.out.1 HS9.out HST9.out.2.1 HO9.out ?_)
          rw [HST9.out.2.2, HW10.out]
          rcases HCS9.out with ⟨rfl, x9, hr9, hof9, hso9⟩ | ⟨rfl, -, -⟩
          · obtain ⟨Y9, hY9⟩ := Option.isSome_iff_exists.1 hso9
            obtain rfl : l2 = Y9 := (read_pack hr9 hof9 (pack_lay hY9)).symm
            have CP := Lib.hid (CP9.out W10 HIN10.out (nt_small hr9 hof9 (by rw [HM2.out]; exact HY1.out)).1)
            rw [hY9] at CP
            clear hr9 hof9 hso9 hY9
            go_wp2_with (with_reducible refine wpList_load_row rfl 44 (.tmp 12) rfl w9.heap.size rfl 44 c9 (0, 0) _ HC10.out Try.underlying44 rfl HS9.out ?_)
            refine CP.out.mono ?_
            rintro e w11 ⟨v11, rfl, ho11, hb11⟩
            obtain ⟨q11, d11, rfl, -, -, hr11⟩ := own_row ho11
            rw [show ((some l2).getD [] : List UInt8) = l2 from rfl] at hr11
            rw [show (nums ((some l2).getD [])).length = M from by rw [nums_length]; exact HM2.out]
            rw [show errP (some l2) = 0 from rfl]
            have HW11 := Lib.hid (HW10w.out.trans (hb11.mono HW10w.out.size))
            have hy0 := HXX.out w11 (HB10.out.trans (hb11.mono HB10.out.size))
            have hy1 := run_string w11 l2 q11 d11 hr11
            rw [HM2.out] at hy1
            obtain ⟨t11, ht11⟩ : ∃ s : ByteArray, (⟨l2.toArray⟩ : ByteArray) = s := ⟨_, rfl⟩
            rw [ht11] at hy0 hy1
            have hne : (t11.toList != t11.toList) = false := bne_self_eq_false _
            clear ho11 hb11 hr11 ht11 CP
            go_wp2_with fail
            go_ret
            exact ⟨rfl, HW11.out⟩
          · go_wp2_with fail
            go_ret
            exact ⟨rfl, HW10w.out⟩
      · have hkz : ¬ (k : Int) < (N : Int) := by omega
        have hkd : decide ((k : Int) < (N : Int)) = false := decide_eq_false hkz
        have HM2 := Lib.hid (show l2.length = M from (own_at8 HO.out).1.symm)
        have HRX := Lib.hid (fun w1 (h : Below wr.heap.size wr w1) => (own_in HO.out).below h)
        have HXX := Lib.hid (fun w1 (h : Below wr.heap.size wr w1) => run_string w1 l2 (some ⟨g, 0, none⟩) cap ((own_in HO.out).below h))
        have CR2 := Lib.hid (read_n l2 (some ⟨g, 0, none⟩) cap wr (own_in HO.out) (by rw [HM2.out]; exact HY1.out))
        rw [HM2.out] at CR2 HXX
        clear HO HK
        go_wp2_with fail
        refine CR2.out.mono ?_
        rintro e w9 ⟨n9, P9, E9, rfl, hb9, hin9, hcase9⟩
        have HW9 := Lib.hid (HBR.out.trans (hb9.mono HBR.out.size))
        have HB9 := Lib.hid hb9
        have CP9 := Lib.hid (fun w1 h1 h2 => pack_n n9 P9 w1 h1 h2)
        unfold ntV at CP9 ⊢
        obtain ⟨c9, hc9⟩ : ∃ c, (ntList n9 P9).toArray = c := ⟨_, rfl⟩
        rw [hc9] at CP9 ⊢
        have hcs9 : c9.size = 27 := by rw [← hc9]; rfl
        have HS9 := Lib.hid (show (Try.prog.info? 44).map (·.size) = some c9.size by rw [hcs9]; exact info_note)
        have HO9 := Lib.hid (show c9.all (·.oneCell') = true by rw [← hc9]; exact nt_one n9 P9)
        have HST9 := Lib.hid (note_store w9 c9 w9.heap.size rfl hcs9)
        obtain ⟨W10, hW10⟩ : ∃ W10, w9.alloc (.cells c9 44) = W10 := ⟨_, rfl⟩
        have hb10 : Below w9.heap.size w9 W10 := hW10 ▸ (Below.refl _ _).alloc (Nat.le_refl _) _
        have HC10 := Lib.hid (show W10.heap[w9.heap.size]? = some (.cells c9 44 (0, 0)) from hW10 ▸ new_block _ _ _)
        have HB10 := Lib.hid (HB9.out.trans (hb10.mono HB9.out.size))
        have HIN10 := Lib.hid (hin9.below hb10)
        have HW10w := Lib.hid (HW9.out.trans (hb10.mono HW9.out.size))
        have HW10 := Lib.hid hW10
        have HCS9 := Lib.hid hcase9
        clear hb9 hin9 hc9 hcs9 hW10 hb10 CR2 hcase9
        go_upto_region 19 with (with_reducible refine wpList_store_row rfl 44 (.tmp 12) (.tmp 97) rfl w9.heap.size c9 rfl rfl 44 noteZ HST9.out.1 HS9.out HST9.out.2.1 HO9.out ?_)
        rw [HST9.out.2.2, HW10.out]
        rcases HCS9.out with ⟨rfl, x9, hr9, hof9, hso9⟩ | ⟨rfl, -, -⟩
        · obtain ⟨Y9, hY9⟩ := Option.isSome_iff_exists.1 hso9
          obtain rfl : l2 = Y9 := (read_pack hr9 hof9 (pack_lay hY9)).symm
          have CP := Lib.hid (CP9.out W10 HIN10.out (nt_small hr9 hof9 (by rw [HM2.out]; exact HY1.out)).1)
          rw [hY9] at CP
          clear hr9 hof9 hso9 hY9
          go_wp2_with (with_reducible refine wpList_load_row rfl 44 (.tmp 12) rfl w9.heap.size rfl 44 c9 (0, 0) _ HC10.out Try.underlying44 rfl HS9.out ?_)
          refine CP.out.mono ?_
          rintro e w11 ⟨v11, rfl, ho11, hb11⟩
          obtain ⟨q11, d11, rfl, -, -, hr11⟩ := own_row ho11
          rw [show ((some l2).getD [] : List UInt8) = l2 from rfl] at hr11
          rw [show (nums ((some l2).getD [])).length = M from by rw [nums_length]; exact HM2.out]
          rw [show errP (some l2) = 0 from rfl]
          have HW11 := Lib.hid (HW10w.out.trans (hb11.mono HW10w.out.size))
          have hy0 := HXX.out w11 (HB10.out.trans (hb11.mono HB10.out.size))
          have hy1 := run_string w11 l2 q11 d11 hr11
          rw [HM2.out] at hy1
          obtain ⟨t11, ht11⟩ : ∃ s : ByteArray, (⟨l2.toArray⟩ : ByteArray) = s := ⟨_, rfl⟩
          rw [ht11] at hy0 hy1
          have hne : (t11.toList != t11.toList) = false := bne_self_eq_false _
          clear ho11 hb11 hr11 ht11 CP
          go_wp2_with fail
          go_ret
          exact ⟨rfl, HW11.out⟩
        · go_wp2_with fail
          go_ret
          exact ⟨rfl, HW10w.out⟩
  · go_upto_region 10 with fail
    have HAX := Lib.hid (HXA.out W4 HB4.out)
    have CMX := Lib.hid (CMA.out W4 (HA.out.below HW4w.out) (Nat.le_trans HFA.out.al (by decide)) (Nat.le_trans HFA.out.hl (by decide)))
    go_wp2_with (with_reducible refine wpList_load_row rfl 36 (.tmp 3) rfl w.heap.size rfl 36 c (0, 0) _ HAX.out Try.underlying36 rfl HIC.out ?_)
    refine CMX.out.mono ?_
    rintro e w7 ⟨P2, rfl, hb7, hin7, -, -, -⟩
    have HW7 := Lib.hid (HW4w.out.trans (hb7.mono HW4w.out.size))
    have CPX := Lib.hid (CPA.out P2 w7 hin7 (few_sm HFA.out))
    unfold ntV
    obtain ⟨c7, hc7⟩ : ∃ c, (ntList n P2).toArray = c := ⟨_, rfl⟩
    rw [hc7] at CPX ⊢
    clear hb7 hin7 hc7 CMX CMA
    go_wp2_with fail
    refine CPX.out.mono ?_
    rintro e w8 ⟨v8, rfl, ho8, hb8⟩
    have HW8 := Lib.hid (HW7.out.trans (hb8.mono HW7.out.size))
    have HS7 := Lib.hid HW7.out.size
    clear hb8 CPX CPA
    obtain ⟨S8, hS8⟩ : ∃ S, packN n = S := ⟨_, rfl⟩
    rw [hS8] at ho8 ⊢
    rcases Option.eq_none_or_eq_some S8 with rfl | ⟨Y, rfl⟩
    · obtain ⟨q8, d8, rfl, -, -, -⟩ := own_row ho8
      rw [show errP (none : Option (List UInt8)) = 1 from rfl]
      clear ho8 hS8
      go_wp2_with fail
      go_ret
      exact ⟨rfl, HW8.out⟩
    have HY1 := Lib.hid (pack_len hS8 HFA.out HLI.out)
    rw [show ((some Y).getD [] : List UInt8) = Y from rfl] at ho8
    rw [show errP (some Y) = 0 from rfl]
    obtain ⟨g, cap, rfl, hgB, hgl⟩ := own_blk ho8 (by rw [nums_length]; exact pack_pos hS8)
    rw [nums_length] at ho8 ⊢
    obtain ⟨M, hM⟩ : ∃ M, Y.length = M := ⟨_, rfl⟩
    rw [hM] at ho8 HY1 ⊢
    have HO8 := Lib.hid ho8
    have HGB := Lib.hid (And.intro hgB hgl)
    have hMz : (M : Int) ≤ 1000000 := by have := HY1.out; omega
    clear ho8 hgB hgl hM hS8
    go_wp2_with fail
    go_loopw [11] (fun i wr => ∃ (k : Nat) (l2 : List UInt8), i = .int .i64 k ∧ k ≤ N ∧ Hid (Own wr w7.heap.size 5 .u8 (.slice (some ⟨g, 0, none⟩) M cap) (nums l2)) ∧ Hid (KeptF (fun j => j = g) w8 wr)) (fun i _ => N - (RowKit.intOf i).toNat)
    case atStart => exact ⟨0, Y, rfl, Nat.zero_le _, HO8, Lib.hid (KeptF.refl _ _)⟩
    case round =>
      obtain ⟨k, l2, rfl, hkN, HO, HK⟩ := hrel
      have HBR := Lib.hid (show Below w.heap.size w wr from HW8.out.trans (HK.out.below (B := w.heap.size) (fun j h => by have h : j = g := h; have := HGB.out.1; have := HS7.out; omega) HW8.out.size))
      by_cases hk : k < N
      · have hkz : (k : Int) < (N : Int) := by omega
        by_cases hkm : k < M
        · have hkmz : (k : Int) < (M : Int) := by omega
          obtain ⟨bb, bo, rfl, hbb, hcb⟩ := byte_cell (HP.out w (Below.refl _ _)) HBR.out (show k < l.length by rw [HN.out]; exact hk)
          obtain ⟨z, hz⟩ : ∃ z, l.getD k 0 = z := ⟨_, rfl⟩
          rw [hz] at hcb
          have hz8 : (z.toNat : Int) ≤ 255 := by have := u8_lt z; omega
          obtain ⟨x, hx⟩ : ∃ x, l2.getD k 0 = x := ⟨_, rfl⟩
          obtain ⟨hM2, hc2⟩ := own_at8 HO.out
          obtain ⟨cx, fx⟩ := hc2 k hkm
          rw [hx] at cx
          have hxor := xor_u8 x z
          obtain ⟨y, hy⟩ : ∃ y, UInt8.ofNat (x.toNat ^^^ z.toNat) = y := ⟨_, rfl⟩
          rw [hy] at hxor
          have HCX := Lib.hid (And.intro cx fx)
          have hx8 : (x.toNat : Int) ≤ 255 := by have := u8_lt x; omega
          clear hM2 hc2 hx hz hy
          go_upto_region 17 with fail
          · go_still_tail 10, mixedAt
            change wpList _ _ _ _ _ wr.drew
            have hbd : Below wr.heap.size wr wr.drew := (Below.refl _ _).drew
            have hgw : g < wr.heap.size := by have := HK.out.size; have := HGB.out.2; omega
            have c4 : wr.drew.cell? ⟨g, k, none⟩ = some (.int .u8 (x.toNat : Int)) := by rw [hbd.cell (p := ⟨g, k, none⟩) hgw]; exact HCX.out.1
            have f4 : wr.drew.frozen? ⟨g, k, none⟩ = false := by rw [hbd.frozen (p := ⟨g, k, none⟩) hgw]; exact HCX.out.2
            have HOd := Lib.hid (below_own HO.out hbd)
            have HKd := Lib.hid (show KeptF (fun j => j = g) w8 (wr.drew.setCell ⟨g, k, none⟩ (.int .u8 (y.toNat : Int))) from (HK.out.drew).set (p := ⟨g, k, none⟩) rfl _)
            clear hbd cx fx hcb
            go_wp2_with fail
            exact ⟨⟨k + 1, l2.set k y, by go_num, hk, Lib.hid (own_set8 HOd.out k hkm y), HKd⟩, by simp [RowKit.intOf]; omega⟩
          · exact ⟨⟨k + 1, l2, by go_num, hk, HO, HK⟩, by simp [RowKit.intOf]; omega⟩
        · have hkmz : ¬ (k : Int) < (M : Int) := by omega
          have hkd : decide ((k : Int) < (M : Int)) = false := decide_eq_false hkmz
          have HM2 := Lib.hid (show l2.length = M from (own_at8 HO.out).1.symm)
          have HRX := Lib.hid (fun w1 (h : Below wr.heap.size wr w1) => (own_in HO.out).below h)
          have HXX := Lib.hid (fun w1 (h : Below wr.heap.size wr w1) => run_string w1 l2 (some ⟨g, 0, none⟩) cap ((own_in HO.out).below h))
          have CR2 := Lib.hid (read_n l2 (some ⟨g, 0, none⟩) cap wr (own_in HO.out) (by rw [HM2.out]; exact HY1.out))
          rw [HM2.out] at CR2 HXX
          clear HO HK
          go_wp2_with fail
          refine CR2.out.mono ?_
          rintro e w9 ⟨n9, P9, E9, rfl, hb9, hin9, hcase9⟩
          have HW9 := Lib.hid (HBR.out.trans (hb9.mono HBR.out.size))
          have HB9 := Lib.hid hb9
          have CP9 := Lib.hid (fun w1 h1 h2 => pack_n n9 P9 w1 h1 h2)
          unfold ntV at CP9 ⊢
          obtain ⟨c9, hc9⟩ : ∃ c, (ntList n9 P9).toArray = c := ⟨_, rfl⟩
          rw [hc9] at CP9 ⊢
          have hcs9 : c9.size = 27 := by rw [← hc9]; rfl
          have HS9 := Lib.hid (show (Try.prog.info? 44).map (·.size) = some c9.size by rw [hcs9]; exact info_note)
          have HO9 := Lib.hid (show c9.all (·.oneCell') = true by rw [← hc9]; exact nt_one n9 P9)
          have HST9 := Lib.hid (note_store w9 c9 w9.heap.size rfl hcs9)
          obtain ⟨W10, hW10⟩ : ∃ W10, w9.alloc (.cells c9 44) = W10 := ⟨_, rfl⟩
          have hb10 : Below w9.heap.size w9 W10 := hW10 ▸ (Below.refl _ _).alloc (Nat.le_refl _) _
          have HC10 := Lib.hid (show W10.heap[w9.heap.size]? = some (.cells c9 44 (0, 0)) from hW10 ▸ new_block _ _ _)
          have HB10 := Lib.hid (HB9.out.trans (hb10.mono HB9.out.size))
          have HIN10 := Lib.hid (hin9.below hb10)
          have HW10w := Lib.hid (HW9.out.trans (hb10.mono HW9.out.size))
          have HW10 := Lib.hid hW10
          have HCS9 := Lib.hid hcase9
          clear hb9 hin9 hc9 hcs9 hW10 hb10 CR2 hcase9
          go_upto_region 19 with (with_reducible refine wpList_store_row rfl 44 (.tmp 12) (.tmp 97) rfl w9.heap.size c9 rfl rfl 44 noteZ HST9.out.1 HS9.out HST9.out.2.1 HO9.out ?_)
          rw [HST9.out.2.2, HW10.out]
          rcases HCS9.out with ⟨rfl, x9, hr9, hof9, hso9⟩ | ⟨rfl, -, -⟩
          · obtain ⟨Y9, hY9⟩ := Option.isSome_iff_exists.1 hso9
            obtain rfl : l2 = Y9 := (read_pack hr9 hof9 (pack_lay hY9)).symm
            have CP := Lib.hid (CP9.out W10 HIN10.out (nt_small hr9 hof9 (by rw [HM2.out]; exact HY1.out)).1)
            rw [hY9] at CP
            clear hr9 hof9 hso9 hY9
            go_wp2_with (with_reducible refine wpList_load_row rfl 44 (.tmp 12) rfl w9.heap.size rfl 44 c9 (0, 0) _ HC10.out Try.underlying44 rfl HS9.out ?_)
            refine CP.out.mono ?_
            rintro e w11 ⟨v11, rfl, ho11, hb11⟩
            obtain ⟨q11, d11, rfl, -, -, hr11⟩ := own_row ho11
            rw [show ((some l2).getD [] : List UInt8) = l2 from rfl] at hr11
            rw [show (nums ((some l2).getD [])).length = M from by rw [nums_length]; exact HM2.out]
            rw [show errP (some l2) = 0 from rfl]
            have HW11 := Lib.hid (HW10w.out.trans (hb11.mono HW10w.out.size))
            have hy0 := HXX.out w11 (HB10.out.trans (hb11.mono HB10.out.size))
            have hy1 := run_string w11 l2 q11 d11 hr11
            rw [HM2.out] at hy1
            obtain ⟨t11, ht11⟩ : ∃ s : ByteArray, (⟨l2.toArray⟩ : ByteArray) = s := ⟨_, rfl⟩
            rw [ht11] at hy0 hy1
            have hne : (t11.toList != t11.toList) = false := bne_self_eq_false _
            clear ho11 hb11 hr11 ht11 CP
            go_wp2_with fail
            go_ret
            exact ⟨rfl, HW11.out⟩
          · go_wp2_with fail
            go_ret
            exact ⟨rfl, HW10w.out⟩
      · have hkz : ¬ (k : Int) < (N : Int) := by omega
        have hkd : decide ((k : Int) < (N : Int)) = false := decide_eq_false hkz
        have HM2 := Lib.hid (show l2.length = M from (own_at8 HO.out).1.symm)
        have HRX := Lib.hid (fun w1 (h : Below wr.heap.size wr w1) => (own_in HO.out).below h)
        have HXX := Lib.hid (fun w1 (h : Below wr.heap.size wr w1) => run_string w1 l2 (some ⟨g, 0, none⟩) cap ((own_in HO.out).below h))
        have CR2 := Lib.hid (read_n l2 (some ⟨g, 0, none⟩) cap wr (own_in HO.out) (by rw [HM2.out]; exact HY1.out))
        rw [HM2.out] at CR2 HXX
        clear HO HK
        go_wp2_with fail
        refine CR2.out.mono ?_
        rintro e w9 ⟨n9, P9, E9, rfl, hb9, hin9, hcase9⟩
        have HW9 := Lib.hid (HBR.out.trans (hb9.mono HBR.out.size))
        have HB9 := Lib.hid hb9
        have CP9 := Lib.hid (fun w1 h1 h2 => pack_n n9 P9 w1 h1 h2)
        unfold ntV at CP9 ⊢
        obtain ⟨c9, hc9⟩ : ∃ c, (ntList n9 P9).toArray = c := ⟨_, rfl⟩
        rw [hc9] at CP9 ⊢
        have hcs9 : c9.size = 27 := by rw [← hc9]; rfl
        have HS9 := Lib.hid (show (Try.prog.info? 44).map (·.size) = some c9.size by rw [hcs9]; exact info_note)
        have HO9 := Lib.hid (show c9.all (·.oneCell') = true by rw [← hc9]; exact nt_one n9 P9)
        have HST9 := Lib.hid (note_store w9 c9 w9.heap.size rfl hcs9)
        obtain ⟨W10, hW10⟩ : ∃ W10, w9.alloc (.cells c9 44) = W10 := ⟨_, rfl⟩
        have hb10 : Below w9.heap.size w9 W10 := hW10 ▸ (Below.refl _ _).alloc (Nat.le_refl _) _
        have HC10 := Lib.hid (show W10.heap[w9.heap.size]? = some (.cells c9 44 (0, 0)) from hW10 ▸ new_block _ _ _)
        have HB10 := Lib.hid (HB9.out.trans (hb10.mono HB9.out.size))
        have HIN10 := Lib.hid (hin9.below hb10)
        have HW10w := Lib.hid (HW9.out.trans (hb10.mono HW9.out.size))
        have HW10 := Lib.hid hW10
        have HCS9 := Lib.hid hcase9
        clear hb9 hin9 hc9 hcs9 hW10 hb10 CR2 hcase9
        go_upto_region 19 with (with_reducible refine wpList_store_row rfl 44 (.tmp 12) (.tmp 97) rfl w9.heap.size c9 rfl rfl 44 noteZ HST9.out.1 HS9.out HST9.out.2.1 HO9.out ?_)
        rw [HST9.out.2.2, HW10.out]
        rcases HCS9.out with ⟨rfl, x9, hr9, hof9, hso9⟩ | ⟨rfl, -, -⟩
        · obtain ⟨Y9, hY9⟩ := Option.isSome_iff_exists.1 hso9
          obtain rfl : l2 = Y9 := (read_pack hr9 hof9 (pack_lay hY9)).symm
          have CP := Lib.hid (CP9.out W10 HIN10.out (nt_small hr9 hof9 (by rw [HM2.out]; exact HY1.out)).1)
          rw [hY9] at CP
          clear hr9 hof9 hso9 hY9
          go_wp2_with (with_reducible refine wpList_load_row rfl 44 (.tmp 12) rfl w9.heap.size rfl 44 c9 (0, 0) _ HC10.out Try.underlying44 rfl HS9.out ?_)
          refine CP.out.mono ?_
          rintro e w11 ⟨v11, rfl, ho11, hb11⟩
          obtain ⟨q11, d11, rfl, -, -, hr11⟩ := own_row ho11
          rw [show ((some l2).getD [] : List UInt8) = l2 from rfl] at hr11
          rw [show (nums ((some l2).getD [])).length = M from by rw [nums_length]; exact HM2.out]
          rw [show errP (some l2) = 0 from rfl]
          have HW11 := Lib.hid (HW10w.out.trans (hb11.mono HW10w.out.size))
          have hy0 := HXX.out w11 (HB10.out.trans (hb11.mono HB10.out.size))
          have hy1 := run_string w11 l2 q11 d11 hr11
          rw [HM2.out] at hy1
          obtain ⟨t11, ht11⟩ : ∃ s : ByteArray, (⟨l2.toArray⟩ : ByteArray) = s := ⟨_, rfl⟩
          rw [ht11] at hy0 hy1
          have hne : (t11.toList != t11.toList) = false := bne_self_eq_false _
          clear ho11 hb11 hr11 ht11 CP
          go_wp2_with fail
          go_ret
          exact ⟨rfl, HW11.out⟩
        · go_wp2_with fail
          go_ret
          exact ⟨rfl, HW10w.out⟩
end Go.Proofs.Ytbhojddakmgdmaa
