/-
  SealCuts: the walk.
-/
import Derived.Test.YtdompocopbobiaaSlAwake
import Derived.Test.YtdompocopbobiaaSlAll
import Derived.Test.YtdompocopbobiaaSlCutM
import Derived.Test.YtdompocopbobiaaSlArgs2
import Derived.StillTailTactics
import Derived.Lib.EndianBits
namespace Go.Proofs.Ytdompocopbobiaa
open Go.RowKit Go.Gz

theorem info_int : (Try.prog.info? 3).map (fun i => (i.zero, i.size, i.bytes)) = some (some (.int .i64 0), 1, 8) := by kernel_rfl
/-- two rows of unlike elements lie in two blocks. -/
theorem owns_apart {w w' : World} {B B' : Nat} {e e' : TypeId} {k k' : IntKind} {u v : Value} {xs ys : List Int} (h : Own w B e k u xs) (hv : Own w B' e' k' v ys) (hne : e ≠ e') (hg : w.grownBy w' v.ownBlock) : Own w' B e k u xs := by
  obtain ⟨h1, h2⟩ := h
  refine ⟨h1, ?_⟩
  rcases h2 with h2 | ⟨g, cap, cur, he, hgB, hh, r⟩
  · exact Or.inl h2
  · refine Or.inr ⟨g, cap, cur, he, hgB, ?_, r⟩
    rw [hg.block g (Array.getElem?_eq_some_iff.1 hh).1]
    · exact hh
    · intro hee
      obtain ⟨_, ⟨rfl, _⟩ | ⟨g', cap', cur', rfl, _, hh', _⟩⟩ := hv
      · cases hee
      · have : g = g' := by simpa [Value.ownBlock] using hee
        subst this
        rw [hh] at hh'
        injection hh' with hh'
        injection hh' with _ ht _
        exact absurd ht hne

def fsOf (rs : List BR) (k : Nat) : List (UInt8 × List UInt8) := (List.range k).map fun i => (UInt8.ofNat i, rs[i]!.l)
theorem fsOf_succ (rs : List BR) (k : Nat) : fsOf rs (k + 1) = fsOf rs k ++ [(UInt8.ofNat k, rs[k]!.l)] := by unfold fsOf; rw [List.range_succ, List.map_append]; rfl
theorem fsOf_take (rs : List BR) (n t : Nat) (h : t ≤ n) : (fsOf rs n).take t = fsOf rs t := by unfold fsOf; rw [← List.map_take, List.take_range, Nat.min_eq_left h]
theorem fsOf_len (rs : List BR) (n : Nat) : (fsOf rs n).length = n := by simp [fsOf]
def lenOf (rs : List BR) (k : Nat) : Nat := (catF (fsOf rs k)).length
theorem lenOf_succ (rs : List BR) (k : Nat) : lenOf rs (k + 1) = lenOf rs k + (7 + rs[k]!.l.length) := by unfold lenOf; rw [fsOf_succ, catF_append, catF_one, List.length_append, frameL_length]
theorem lenOf_le (rs : List BR) : ∀ k, (∀ j, j < k → rs[j]!.l.length ≤ 200) → lenOf rs k ≤ k * 207
  | 0, _ => by simp [lenOf, fsOf, catF]
  | k + 1, h => by
    have := lenOf_le rs k (fun j hj => h j (by omega))
    have := h k (by omega)
    rw [lenOf_succ]; omega
theorem lenOf_mono (rs : List BR) (k : Nat) : ∀ n, lenOf rs k ≤ lenOf rs (k + n)
  | 0 => Nat.le_refl _
  | n + 1 => by have := lenOf_mono rs k n; have := lenOf_succ rs (k + n); rw [Nat.add_assoc] at this; omega
def endsOf (rs : List BR) (k : Nat) : List Int := (List.range k).map fun i => (lenOf rs (i + 1) : Int)
theorem endsOf_succ (rs : List BR) (k : Nat) : endsOf rs (k + 1) = endsOf rs k ++ [(lenOf rs (k + 1) : Int)] := by unfold endsOf; rw [List.range_succ, List.map_append]; rfl
@[simp] theorem endsOf_len (rs : List BR) (k : Nat) : (endsOf rs k).length = k := by simp [endsOf]
theorem endsOf_at (rs : List BR) (k j : Nat) (h : j < k) : (endsOf rs k).getD j 0 = (lenOf rs (j + 1) : Int) := by simp [endsOf, List.getD, h]

structure CutR (W : World) (rs : List BR) (k : Nat) (vb ve : Value) (wr : World) : Prop where
  sm : ∀ j, j < k → rs[j]!.l.length ≤ 200
  ob : Own wr W.heap.size 5 .u8 vb (nums (catF (fsOf rs k)))
  oe : Own wr W.heap.size 3 .i64 ve (endsOf rs k)
  bl : Below W.heap.size W wr

set_option maxHeartbeats 8000000 in
set_option maxRecDepth 100000 in
theorem cuts_walk (rs : List BR) (cut n0 n1 : Nat) (p : Option Addr) (c : Nat) (W0 : World) (hp : BRows W0 p rs) (hc16 : cut < 65536) (hn0 : n0 < 65536) (hn1 : n1 < 65536)
    (hl1 : rs.length ≤ 9223372036854775807) (hl2 : ∀ r ∈ rs, r.l.length ≤ 9223372036854775807) :
    Calls Try.prog 5 #[.slice p rs.length c, .int .u16 cut, .agg #[.int .u16 n0, .int .u16 n1]] W0 fun e w' => e = .returned (.bool true) ∧ Below W0.heap.size W0 w' := by
  obtain ⟨W, hW⟩ : ∃ W, W0.alloc (.cells #[.int .u16 n0, .int .u16 n1] 38) = W := ⟨_, rfl⟩
  have hb0 : Below W0.heap.size W0 W := hW ▸ (Below.refl _ _).alloc (Nat.le_refl _) _
  have HP := Lib.hid (hp.below hb0)
  have HB0 := Lib.hid hb0
  have HZ := Lib.hid (show W.heap.size = W0.heap.size + 1 by rw [← hW]; simp)
  have HX := Lib.hid (show W.cell? ⟨W0.heap.size, 0, none⟩ = some (.int .u16 n0) ∧ W.cell? ⟨W0.heap.size, 1, none⟩ = some (.int .u16 n1) by rw [← hW]; constructor <;> simp [go_sem])
  have C0 := Lib.hid (awake_yes W)
  have H16 := Lib.hid (And.intro hc16 (And.intro hn0 hn1))
  have HSM := Lib.hid hl2
  obtain ⟨nr, hnr⟩ : ∃ nr, rs.length = nr := ⟨_, rfl⟩
  rw [hnr] at hl1 ⊢
  have HN := Lib.hid hnr
  clear hp hb0 hc16 hn0 hn1 hl2 hnr
  by_cases hbig : 20 < nr
  · have hbz : (20 : Int) < (nr : Int) := by omega
    clear hl1
    go_enter Try.func5, Try.ntmps5
    go_wp2_with fail
    refine C0.out.mono ?_
    rintro e w1 ⟨rfl, hb1⟩
    go_wp2_with fail
    go_ret
    exact ⟨rfl, HB0.out.trans (hb1.mono HB0.out.size)⟩
  · have hbz : ¬ (20 : Int) < (nr : Int) := by omega
    have hnz : (nr : Int) ≤ 20 := by omega
    have HL := Lib.hid hbig
    clear hbig hl1
    go_enter Try.func5, Try.ntmps5
    go_wp2_with fail
    refine C0.out.mono ?_
    rintro e w1 ⟨rfl, hb1⟩
    have HB1 := Lib.hid hb1; clear hb1
    go_wp2_with fail
    go_loopw [7, 8, 9] (fun vb ve i wr => ∃ k : Nat, k ≤ nr ∧ i = .int .i64 k ∧ Hid (CutR W rs k vb ve wr)) (fun _ _ i _ => nr - (intOf i).toNat)
    case atStart => exact ⟨0, Nat.zero_le _, rfl, Lib.hid ⟨fun j hj => by omega, Own.nil _ _ _ _, Own.nil _ _ _ _, HB1.out⟩⟩
    case round =>
      obtain ⟨k, hk, rfl, HR⟩ := hrel
      have hsz := HR.out.bl.size
      by_cases hlt : k < nr
      · have hltz : (k : Int) < (nr : Int) := by omega
        obtain ⟨b, o, rfl, hbl, hcell, hat⟩ := brow_at (HP.out.below HR.out.bl) (show k < rs.length by rw [HN.out]; exact hlt)
        have hrl := lenOf_succ rs k
        have hll := lenOf_le rs k HR.out.sm
        obtain ⟨r, hr⟩ : ∃ r, rs[k]! = r := ⟨_, rfl⟩
        rw [hr] at hcell hat hrl
        unfold BR.v at hcell
        have hmem : r.l.length ≤ 9223372036854775807 := by
          refine HSM.out r ?_
          rw [← hr, getElem!_pos rs k (by rw [HN.out]; exact hlt)]
          exact List.getElem_mem _
        obtain ⟨nn, hnn⟩ : ∃ nn, r.l.length = nn := ⟨_, rfl⟩
        rw [hnn] at hcell hmem hrl
        by_cases h200 : 200 < nn
        · have h2z : (200 : Int) < (nn : Int) := by omega
          have HBE := Lib.hid (HB0.out.trans (HR.out.bl.mono HB0.out.size))
          clear hmem hrl hll hat
          go_wp2_with fail
          go_ret
          exact ⟨rfl, HBE.out⟩
        · have h2z : ¬ (200 : Int) < (nn : Int) := by omega
          have hk8 : (UInt8.ofNat k).toNat = k := by rw [UInt8.toNat_ofNat']; exact Nat.mod_eq_of_lt (by have := HL.out; omega)
          have CF := Lib.hid (show Calls Try.prog 8 #[.int .u8 (k : Int), .slice r.p nn r.c] wr (RetFr wr (frameL (UInt8.ofNat k) r.l)) from by
            have := frame_ok (UInt8.ofNat k) r.l (by omega) r.p r.c wr hat.row hat.le hat.nil
            rwa [hnn, hk8] at this)
          have HRN := Lib.hid (And.intro hr hnn)
          have HLL := Lib.hid (And.intro hll hrl)
          clear hmem hat hk8 hr hnn hll hrl
          go_wp2_with fail
          refine CF.out.mono ?_
          rintro e w2 ⟨v2, rfl, hown2, hb2⟩
          obtain ⟨q2, d2, rfl, -, hqd2, hrow2⟩ := own_row hown2
          rw [nums_length, frameL_length, HRN.out.2]
          have HB2 := Lib.hid (HR.out.bl.trans (hb2.mono hsz))
          have HO2 := Lib.hid (below_own HR.out.ob hb2)
          have HE2 := Lib.hid (below_own HR.out.oe hb2)
          have HR2 := Lib.hid (And.intro hrow2 hqd2)
          clear hown2 hb2 hrow2 hqd2 CF hcell
          go_wp2_with (at_builtin; refine wpList_own_row rfl _ _ 22 rfl 5 .u8 1 Try.underlying22 info_byte (by decide) W.heap.size _ _ rfl HO2.out q2 d2 (nums (frameL (UInt8.ofNat k) r.l)) (by rw [nums_length, frameL_length, HRN.out.2]; rfl) HR2.out.1 HR2.out.2 (by
            rw [nums_length, nums_length, frameL_length, HRN.out.2]
            have h1 := HLL.out.1; unfold lenOf at h1; have := HL.out; omega) HB2.out.size ?_)
          intro v3 w3 hown3 hgrow3
          have HB3 := Lib.hid (HB2.out.grown hgrow3 HB2.out.size (fun g hg => HO2.out.lt g hg))
          have HO3 := Lib.hid (show Own w3 W.heap.size 5 .u8 v3 (nums (catF (fsOf rs (k + 1)))) by
            rw [fsOf_succ, HRN.out.1, catF_append, catF_one, nums_append]; exact hown3)
          have HE3 := Lib.hid (owns_apart HE2.out HO2.out (by decide) hgrow3)
          clear hown3 hgrow3 HE2 HO2
          obtain ⟨q3, d3, rfl, -, -, -⟩ := own_row HO3.out
          rw [nums_length, show (catF (fsOf rs (k + 1))).length = lenOf rs (k + 1) from rfl] at HO3 ⊢
          obtain ⟨N, hN⟩ : ∃ N, lenOf rs (k + 1) = N := ⟨_, rfl⟩
          rw [hN] at HO3 ⊢
          have HNN := Lib.hid hN
          clear hN
          go_wp2_with (at_builtin; refine wpList_own_push rfl _ _ 39 rfl 3 .i64 8 Try.underlying39 info_int (by decide) W.heap.size _ _ rfl (HE3.out.alloc _) w3.heap.size 1 1 [(N : Int)] rfl rfl ?newCells (by rw [endsOf_len]; have := HL.out; omega) (by have := HB3.out.size; simp; omega) ?_)
          case newCells =>
            intro j hj
            obtain rfl : j = 0 := by omega
            simp
          intro v4 w4 hown4 hgrow4
          have hal : Below w3.heap.size w3 (w3.alloc (.cells #[.int .i64 (N : Int)] 3)) := (Below.refl _ _).alloc (Nat.le_refl _) _
          have HR4 := Lib.hid (show CutR W rs (k + 1) (.slice q3 N d3) v4 w4 from
            ⟨fun j hj => by
                by_cases h : j < k
                · exact HR.out.sm j h
                · obtain rfl : j = k := by omega
                  rw [HRN.out.1, HRN.out.2]; omega,
              owns_apart (below_own HO3.out hal) (HE3.out.alloc _) (by decide) hgrow4,
              by rw [endsOf_succ, HNN.out]; exact hown4,
              (HB3.out.alloc HB3.out.size _).grown hgrow4 (by have := HB3.out.size; simp; omega) (fun g hg => HE3.out.lt g hg)⟩)
          clear hown4 hgrow4 hal
          go_wp2_with fail
          go_roundw
          case rel => exact ⟨k + 1, by omega, by go_num, HR4⟩
          case measure => simp [intOf]; omega
      · obtain rfl : k = nr := by omega
        have hltz : ¬ (k : Int) < (k : Int) := by omega
        obtain ⟨q, d, rfl, -, -, -⟩ := own_row HR.out.ob
        obtain ⟨qe, de, rfl, -, -, hrowe⟩ := own_row HR.out.oe
        have hll := lenOf_le rs k HR.out.sm
        have hOB := HR.out.ob
        rw [nums_length, show (catF (fsOf rs k)).length = lenOf rs k from rfl] at hOB ⊢
        rw [endsOf_len]
        obtain ⟨N, hN⟩ : ∃ N, lenOf rs k = N := ⟨_, rfl⟩
        rw [hN] at hOB hll ⊢
        have HO := Lib.hid hOB
        have HE := Lib.hid hrowe
        have HNN := Lib.hid (And.intro hN hll)
        have HB := Lib.hid HR.out.bl
        have HS := Lib.hid HR.out.sm
        obtain ⟨K, hK⟩ : ∃ K, cut % (N + 1) = K := ⟨_, rfl⟩
        have hKz : (cut : Int) % ((N : Int) + 1) = (K : Int) := by rw [← hK]; simp
        have hKN : K ≤ N := by rw [← hK]; have := Nat.mod_lt cut (show 0 < N + 1 by omega); omega
        have hNz : (N : Int) ≤ 4140 := by have := HL.out; omega
        have hcz : (cut : Int) ≤ 65535 := by have := H16.out.1; omega
        have HKN := Lib.hid hKN
        clear hOB hrowe hN hll HR hK hKN
        go_wp2_with fail
        obtain ⟨n, hkn⟩ : ∃ n, k = n := ⟨_, rfl⟩
        have HKE := Lib.hid hkn
        go_loop [13, 14] (fun vt va => ∃ t : Nat, t ≤ n ∧ vt = .int .i64 t ∧ va = .int .i64 (lenOf rs t : Nat) ∧ Hid (lenOf rs t ≤ K)) (fun vt _ => n - (intOf vt).toNat)
        case atStart => exact ⟨0, Nat.zero_le _, rfl, rfl, Lib.hid (Nat.zero_le _)⟩
        case round =>
          obtain ⟨t, ht, rfl, rfl, HT⟩ := hrel
          obtain ⟨T, hT⟩ : ∃ T, lenOf rs t = T := ⟨_, rfl⟩
          rw [hT] at HT ⊢
          have HTT := Lib.hid hT; clear hT
          by_cases hlt : t < n ∧ lenOf rs (t + 1) ≤ K
          · obtain ⟨hlt, hle⟩ := hlt
            obtain ⟨b, o, rfl, hbl, hcell⟩ := row_cell HE.out (Below.refl _ _) (show t < (endsOf rs k).length by rw [endsOf_len]; omega)
            rw [endsOf_at rs k t (by omega)] at hcell
            obtain ⟨E, hE⟩ : ∃ E, lenOf rs (t + 1) = E := ⟨_, rfl⟩
            rw [hE] at hcell hle
            have HEE := Lib.hid hE; clear hE
            have hltz : (t : Int) < (n : Int) := by omega
            have hlez : decide ((E : Int) ≤ (K : Int)) = true := decide_eq_true (by omega)
            have hlen2 : decide (E ≤ K) = true := decide_eq_true hle
            have HLE := Lib.hid hle
            have hn20 : n ≤ 20 := by omega
            clear hle
            go_wp2_with fail
            go_round
            case rel => exact ⟨t + 1, by omega, by go_num, by rw [HEE.out], by rw [HEE.out]; exact HLE⟩
            case measure => simp [intOf]; omega
          · have hor : t = n ∨ K < lenOf rs (t + 1) := by omega
            have hai : AllIs ((catF (fsOf rs k)).take K) ((fsOf rs t).map fun x => x.1 :: x.2) T := by
              have := all_cut (fsOf rs k) t K (fun x hx => by
                obtain ⟨j, hj, rfl⟩ := List.mem_map.1 hx
                show rs[j]!.l.length ≤ _
                have := HS.out j (List.mem_range.1 hj); omega) (by rw [fsOf_len]; omega) (by rw [fsOf_take _ _ _ (by omega)]; have h1 := HTT.out; have h2 := HT.out; unfold lenOf at h1; omega) (by
                  rw [fsOf_len]
                  rcases hor with h | h
                  · exact Or.inl (by omega)
                  · by_cases htn : t = k
                    · exact Or.inl htn
                    · refine Or.inr ?_
                      rw [fsOf_take _ _ _ (by omega)]; exact h)
              rw [fsOf_take _ _ _ (by omega)] at this
              have h1 := HTT.out
              unfold lenOf at h1
              rw [h1] at this
              exact this
            have CA := Lib.hid (all_pre _ (by have h1 := HNN.out.1; unfold lenOf at h1; have := HNN.out.2; have := HL.out; omega) W.heap.size q N K d wr HO.out HKN.out _ _ hai)
            clear hai
            have hNd : (K : Int) ≤ (d : Int) := by
              obtain ⟨_, _, he, hd, _⟩ := own_row HO.out
              injection he with _ h2 h3
              have := HKN.out
              omega
            rcases Nat.lt_or_ge t n with hlt2 | hge2
            case' inl =>
              obtain ⟨b, o, rfl, hbl, hcell⟩ := row_cell HE.out (Below.refl _ _) (show t < (endsOf rs k).length by rw [endsOf_len]; omega)
              rw [endsOf_at rs k t (by omega)] at hcell
              obtain ⟨E, hE⟩ : ∃ E, lenOf rs (t + 1) = E := ⟨_, rfl⟩
              rw [hE] at hcell hor
              have hltz : (t : Int) < (n : Int) := by omega
              have hlez : decide ((E : Int) ≤ (K : Int)) = false := decide_eq_false (by omega)
              have hlen2 : decide (E ≤ K) = false := decide_eq_false (by omega)
              clear hE hor hlt
              go_wp2_with fail
            case' inr =>
              have hltz : ¬ (t : Int) < (n : Int) := by omega
              clear hor hlt
              go_wp2_with fail
            all_goals
              refine CA.out.mono ?_
              rintro e w2 ⟨va, vs, rfl, hol, hit, hb2⟩
              obtain ⟨qa, ca, rfl, -, -, -⟩ := hol.row
              have hvl : vs.length = t := by rw [hit.1, List.length_map, fsOf_len]
              rw [hvl]
              have HB2 := Lib.hid (HB.out.trans (hb2.mono HB.out.size))
              have HO2 := Lib.hid (below_own HO.out hb2)
              have hrp := HP.out.below HB2.out
              have hx0 : w2.cell? ⟨W0.heap.size, 0, none⟩ = some (.int .u16 n0) := by rw [HB2.out.cell (p := ⟨W0.heap.size, 0, none⟩) (by have := HZ.out; show W0.heap.size < _; omega)]; exact HX.out.1
              have hx1 : w2.cell? ⟨W0.heap.size, 1, none⟩ = some (.int .u16 n1) := by rw [HB2.out.cell (p := ⟨W0.heap.size, 1, none⟩) (by have := HZ.out; show W0.heap.size < _; omega)]; exact HX.out.2
              have HBE := Lib.hid (HB0.out.trans (HB2.out.mono HB0.out.size))
              clear hol hit hb2 hvl CA
              by_cases hk0 : k = 0
              · subst hk0
                subst hkn
                go_wp2_with fail
                go_ret
                exact ⟨rfl, HBE.out⟩
              · have hk0z : ((k : Int) == 0) = false := by simp; omega
                obtain ⟨b0, o0, rfl, hbl0, hcell0, hat0⟩ := brow_at hrp (show 0 < rs.length by rw [HN.out]; omega)
                rw [Nat.add_zero] at hcell0
                obtain ⟨r, hr⟩ : ∃ r, rs[0]! = r := ⟨_, rfl⟩
                rw [hr] at hcell0 hat0
                unfold BR.v at hcell0
                obtain ⟨m, hm⟩ : ∃ m, r.l.length = m := ⟨_, rfl⟩
                rw [hm] at hcell0
                have hk0p : (0 : Int) < (k : Int) := by omega
                have hm200 : m ≤ 200 := by rw [← hm, ← hr]; exact HS.out 0 (by omega)
                by_cases hm0 : m = 0
                · subst hm0
                  go_wp2_with fail
                  go_ret
                  exact ⟨rfl, HBE.out⟩
                · have hm0z : ((m : Int) == 0) = false := by simp; omega
                  have hn1z : (n1 : Int) ≤ 65535 := by have := H16.out.2.2; omega
                  have hb255 : bits .and .u16 (n1 : Int) 255 = ((n1 % 256 : Nat) : Int) := by
                    have := bits_mask .u16 16 (by decide) wraps_u16 8 (by decide) (n1 : Int) (by omega) (by omega)
                    rw [show (255 : Int) = 2 ^ 8 - 1 by decide, this]; simp
                  by_cases hn256 : n1 % 256 = 0
                  · rw [hn256] at hb255
                    go_wp2_with fail
                    go_ret
                    exact ⟨rfl, HBE.out⟩
                  · obtain ⟨y, hy⟩ : ∃ y, n1 % 256 = y := ⟨_, rfl⟩
                    rw [hy] at hb255 hn256
                    have hy0z : ((y : Int) == 0) = false := by simp; omega
                    have hN7 : 7 + m ≤ N := by
                      have h1 := lenOf_succ rs 0
                      rw [hr, hm] at h1
                      have h2 := lenOf_mono rs 1 (k - 1)
                      rw [show 1 + (k - 1) = k by omega, HNN.out.1] at h2
                      have h3 : lenOf rs 0 = 0 := by simp [lenOf, fsOf, catF]
                      rw [h3, Nat.zero_add, Nat.zero_add] at h1
                      omega
                    have hN7z : decide ((N : Int) < 7 + (m : Int)) = false := decide_eq_false (by omega)
                    obtain ⟨P, hP⟩ : ∃ P, n0 % m = P := ⟨_, rfl⟩
                    have hPm : P < m := by rw [← hP]; exact Nat.mod_lt _ (by omega)
                    have hPz : (n0 : Int) % (m : Int) = (P : Int) := by rw [← hP]; simp
                    obtain ⟨F, hF⟩ : ∃ F, catF (fsOf rs k) = F := ⟨_, rfl⟩
                    have hFl : F.length = N := by rw [← hF]; exact HNN.out.1
                    have hFe : F = frameL (UInt8.ofNat 0) r.l ++ catF ((fsOf rs k).drop 1) := by
                      rw [← hF]
                      obtain ⟨j, hj⟩ : ∃ j, k = 1 + j := ⟨k - 1, by omega⟩
                      rw [hj]
                      unfold fsOf
                      rw [List.range_add, List.map_append]
                      rw [show (List.range 1).map (fun i => (UInt8.ofNat i, rs[i]!.l)) = [(UInt8.ofNat 0, r.l)] by rw [← hr]; rfl]
                      rfl
                    rw [hF] at HO2
                    obtain ⟨g, hq, hgB, hgl, c2, f2⟩ := own_at HO2.out (show 7 + P < F.length by rw [hFl]; omega)
                    have e2 : F.getD (7 + P) 0 = r.l.getD P 0 := by
                      rw [hFe]
                      have h7 : (frameL (UInt8.ofNat 0) r.l).length = 7 + m := by rw [frameL_length, hm]
                      have h1 : (frameL (UInt8.ofNat 0) r.l ++ catF ((fsOf rs k).drop 1)).getD (7 + P) 0 = (frameL (UInt8.ofNat 0) r.l).getD (7 + P) 0 := by
                        simp only [List.getD]
                        rw [List.getElem?_append_left (by omega)]
                      rw [h1]
                      unfold frameL
                      have h3 : (headL (UInt8.ofNat 0) r.l ++ be4 (sumL (headL (UInt8.ofNat 0) r.l ++ r.l))).length = 7 := by simp [headL, be2, be4]
                      simp only [List.getD]
                      rw [List.getElem?_append_right (by omega), h3, Nat.add_sub_cancel_left]
                    rw [e2] at c2
                    obtain ⟨x, hx⟩ : ∃ x, r.l.getD P 0 = x := ⟨_, rfl⟩
                    rw [hx] at c2
                    have hx8 : (x.toNat : Int) ≤ 255 := by have := u8_lt x; omega
                    obtain ⟨hzne, hzx⟩ := xor_ne x y (by omega) hn256
                    have hyz : (n1 : Int) % 256 = (y : Int) := by rw [← hy]; simp
                    obtain ⟨z, hz⟩ : ∃ z, UInt8.ofNat (x.toNat ^^^ y) = z := ⟨_, rfl⟩
                    rw [hz] at hzne hzx
                    have hxor : bits .xor .u8 (x.toNat : Int) (y : Int) = (z.toNat : Int) := hzx.symm
                    have hrow := own_row HO2.out
                    subst hq
                    clear hzx hz hF hrp hat0
                    have HFE := Lib.hid (And.intro hFe (And.intro hFl (And.intro hx hzne)))
                    clear hFe hFl hx hzne e2 hy hP hn256 hr hrow
                    have hPb : (P : Int) < (m : Int) := by omega
                    have hNN4 : 7 + (P : Int) < (N : Int) := by omega
                    have hm2z : (m : Int) ≤ 200 := by omega
                    have hpz : (0 : Int) ≤ 7 + (P : Int) := by omega
                    have htn : (7 + (P : Int)).toNat = 7 + P := by omega
                    have hw1 : IntKind.i64.wrap (P : Int) = (P : Int) := by rw [IntKind.wrap_i64]; omega
                    have hw2 : IntKind.i64.wrap (7 + (P : Int)) = 7 + (P : Int) := by rw [IntKind.wrap_i64]; omega
                    have ht1 : (n0 : Int).tmod (m : Int) = (P : Int) := by rw [← hPz]; rfl
                    have hw0 : IntKind.i64.wrap (n0 : Int) = (n0 : Int) := by rw [IntKind.wrap_i64]; have := H16.out.2.1; omega
                    have hw3 : IntKind.u8.wrap (n1 : Int) = (y : Int) := by rw [IntKind.wrap_u8]; exact hyz
                    go_wp2_with fail
                    have HC2 := Lib.hid (And.intro c2 f2)
                    have HGB := Lib.hid (And.intro hgB hgl)
                    have HPM := Lib.hid (And.intro hPm hN7)
                    go_still_tail 17, mixedSl
                    clear htn hw1 hw2 ht1 hw0 hw3 hyz hxor hPz hNN4 hPb c2 f2 hx0 hx1 hcell0 hb255 hpz hgB hgl
                    change wpList _ _ _ _ _ w2.drew
                    have hbd : Below w2.heap.size w2 w2.drew := (Below.refl _ _).drew
                    have c3 : w2.drew.cell? ⟨g, 7 + P, none⟩ = some (.int .u8 (x.toNat : Int)) := by rw [hbd.cell (p := ⟨g, 7 + P, none⟩) HGB.out.2]; exact HC2.out.1
                    have f3 : w2.drew.frozen? ⟨g, 7 + P, none⟩ = false := by rw [hbd.frozen (p := ⟨g, 7 + P, none⟩) HGB.out.2]; exact HC2.out.2
                    have HOd := Lib.hid (below_own HO2.out hbd)
                    have HBd := Lib.hid (HB2.out.trans (hbd.mono HB2.out.size))
                    clear hbd
                    generalize w2.drew = w3 at *
                    obtain ⟨wS, hwS⟩ : ∃ wS, w3.setCell ⟨g, 7 + P, none⟩ (.int .u8 (z.toNat : Int)) = wS := ⟨_, rfl⟩
                    have HBS := Lib.hid (show Below W.heap.size W wS from hwS ▸ HBd.out.setCell HGB.out.1 _)
                    have CO := Lib.hid (show Calls Try.prog 12 #[.slice (some ⟨g, 0, none⟩) N d] wS _ from by
                      obtain ⟨q', d', he, hd', -, hrow⟩ := own_row HOd.out
                      injection he with h1 h2 h3
                      rw [nums_length, HFE.out.2.1] at hd'
                      subst h1 h3
                      refine open_bad (F.set (7 + P) z) 6 ?_ (by decide) ?_ N ?_ (some ⟨g, 0, none⟩) d wS ?_ hd'
                      · rw [HFE.out.1]
                        exact err_set_data _ r.l _ (by rw [hm]; omega) P (by rw [hm]; exact HPM.out.1) z (by rw [HFE.out.2.2.1]; exact HFE.out.2.2.2)
                      · rw [List.length_set, HFE.out.2.1]; have := HNN.out.2; have := HL.out; omega
                      · rw [List.length_set, HFE.out.2.1]
                      · rw [← hwS]
                        exact row_set hrow (by rw [HFE.out.2.1]; have := HPM.out; omega) z)
                    go_wp2_with fail
                    refine CO.out.mono ?_
                    rintro e w9 ⟨rfl, hb9⟩
                    have HB9 := Lib.hid (HB0.out.trans ((HBS.out.trans (hb9.mono HBS.out.size)).mono HB0.out.size))
                    clear hb9
                    go_wp2_with fail
                    go_ret
                    exact ⟨rfl, HB9.out⟩
theorem cuts_int (rs : List BR) (cut : Int) (n0 n1 : Nat) (hk : ∃ k : Nat, k < 65536 ∧ cut = k) (p : Option Addr) (c : Nat) (W0 : World) (hp : BRows W0 p rs) (hn0 : n0 < 65536) (hn1 : n1 < 65536)
    (hl1 : rs.length ≤ 9223372036854775807) (hl2 : ∀ r ∈ rs, r.l.length ≤ 9223372036854775807) :
    Calls Try.prog 5 #[.slice p rs.length c, .int .u16 cut, .agg #[.int .u16 n0, .int .u16 n1]] W0 fun e w' => e = .returned (.bool true) ∧ Below W0.heap.size W0 w' := by
  obtain ⟨k, hk1, rfl⟩ := hk
  exact cuts_walk rs k n0 n1 p c W0 hp hk1 hn0 hn1 hl1 hl2
end Go.Proofs.Ytdompocopbobiaa
