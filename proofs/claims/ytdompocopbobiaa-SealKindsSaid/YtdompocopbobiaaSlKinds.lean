/-
  SealKinds: the walk.
-/
import Derived.Test.YtdompocopbobiaaSlAwake
import Derived.Test.YtdompocopbobiaaSlAll
import Derived.Test.YtdompocopbobiaaSlKindM
namespace Go.Proofs.Ytdompocopbobiaa
open Go.RowKit Go.Gz

def zipK (ks d : List UInt8) : List (UInt8 × List UInt8) := ks.map fun k => (k, d)

set_option maxHeartbeats 8000000 in
set_option maxRecDepth 100000 in
theorem kinds_walk (ks d : List UInt8) (pk pd : Option Addr) (ck cd : Nat) (W : World) (hk : Row W .u8 pk (nums ks)) (hd : Row W .u8 pd (nums d)) (hcd : d.length ≤ cd) (hpd : pd = none → cd = 0)
    (hl1 : ks.length ≤ 9223372036854775807) (hl2 : d.length ≤ 9223372036854775807) :
    Calls Try.prog 6 #[.slice pk ks.length ck, .slice pd d.length cd] W fun e w' => e = .returned (.bool true) ∧ Below W.heap.size W w' := by
  have HP := Lib.hid (And.intro hk (And.intro hd (And.intro hcd hpd)))
  have C0 := Lib.hid (awake_yes W)
  obtain ⟨nk, hnk⟩ : ∃ nk, ks.length = nk := ⟨_, rfl⟩
  obtain ⟨nd, hnd⟩ : ∃ nd, d.length = nd := ⟨_, rfl⟩
  rw [hnk] at hl1 ⊢
  rw [hnd] at hl2 ⊢
  have HN := Lib.hid (And.intro hnk hnd)
  clear hk hd hcd hpd hnk hnd
  by_cases hbig : 40 < nk
  · have hbz : (40 : Int) < (nk : Int) := by omega
    clear hl1 hl2
    go_enter Try.func6, Try.ntmps6
    go_wp2_with fail
    refine C0.out.mono ?_
    rintro e w1 ⟨rfl, hb1⟩
    go_wp2_with fail
    go_ret
    exact ⟨rfl, hb1⟩
  · have hbz : decide ((40 : Int) < (nk : Int)) = false := decide_eq_false (by omega)
    by_cases hdb : 100 < nd
    · have hdz : (100 : Int) < (nd : Int) := by omega
      clear hl1 hl2
      go_enter Try.func6, Try.ntmps6
      go_wp2_with fail
      refine C0.out.mono ?_
      rintro e w1 ⟨rfl, hb1⟩
      go_wp2_with fail
      go_ret
      exact ⟨rfl, hb1⟩
    · have hdz : decide ((100 : Int) < (nd : Int)) = false := decide_eq_false (by omega)
      have HL := Lib.hid (And.intro hbig hdb)
      have hkz : (nk : Int) ≤ 40 := by omega
      clear hl1 hl2 hbig hdb
      have HCL := Lib.hid (show ∀ k, k ≤ nk → (catF (zipK (ks.take k) d)).length = k * (7 + nd) from fun k hk => by
        have : ∀ ls : List UInt8, (catF (zipK ls d)).length = ls.length * (7 + nd) := fun ls => by
          induction ls with
          | nil => simp [zipK, catF]
          | cons x r ih => simp only [zipK, List.map_cons, catF, List.length_append, frameL_length, List.length_cons] at ih ⊢; rw [ih, HN.out.2, Nat.add_mul]; omega
        rw [this, List.length_take, HN.out.1, Nat.min_eq_left hk])
      go_enter Try.func6, Try.ntmps6
      go_wp2_with fail
      refine C0.out.mono ?_
      rintro e w1 ⟨rfl, hb1⟩
      have HB1 := Lib.hid hb1; clear hb1
      go_wp2_with fail
      go_loopw [5, 6] (fun v i wr => ∃ k : Nat, k ≤ nk ∧ i = .int .i64 k ∧ Hid (Own wr W.heap.size 5 .u8 v (nums (catF (zipK (ks.take k) d)))) ∧ Hid (Below W.heap.size W wr)) (fun _ i _ => nk - (intOf i).toNat)
      case atStart => exact ⟨0, Nat.zero_le _, rfl, Lib.hid (Own.nil _ _ _ _), HB1⟩
      case round =>
        obtain ⟨k, hk, rfl, HO, HB⟩ := hrel
        have hsz := HB.out.size
        by_cases hlt : k < nk
        · have hltz : (k : Int) < (nk : Int) := by omega
          obtain ⟨b, o, rfl, hbl, hcell⟩ := byte_cell HP.out.1 HB.out (show k < ks.length by rw [HN.out.1]; exact hlt)
          obtain ⟨x, hx⟩ : ∃ x, ks.getD k 0 = x := ⟨_, rfl⟩
          rw [hx] at hcell
          have HX := Lib.hid hx; clear hx
          have CF := Lib.hid (show Calls Try.prog 8 #[.int .u8 x.toNat, .slice pd nd cd] wr (RetFr wr (frameL x d)) from by
            have := frame_ok x d (by rw [HN.out.2]; have := HL.out; omega) pd cd wr (HP.out.2.1.below HB.out) HP.out.2.2.1 HP.out.2.2.2
            rwa [HN.out.2] at this)
          go_wp2_with fail
          refine CF.out.mono ?_
          rintro e w2 ⟨v2, rfl, hown2, hb2⟩
          obtain ⟨q2, d2, rfl, -, hqd2, hrow2⟩ := own_row hown2
          rw [nums_length, frameL_length, HN.out.2]
          have HB2 := Lib.hid (HB.out.trans (hb2.mono HB.out.size))
          have HO2 := Lib.hid (below_own HO.out hb2)
          have HR2 := Lib.hid (And.intro hrow2 hqd2)
          clear hown2 hb2 hrow2 hqd2 CF hcell
          go_wp2_with (at_builtin; refine wpList_own_row rfl _ _ 22 rfl 5 .u8 1 Try.underlying22 info_byte (by decide) W.heap.size _ _ rfl HO2.out q2 d2 (nums (frameL x d)) (by rw [nums_length, frameL_length, HN.out.2]; rfl) HR2.out.1 HR2.out.2 (by
            rw [nums_length, nums_length, HCL.out k (by omega), frameL_length, HN.out.2]
            have h1 : k * (7 + nd) ≤ 40 * (7 + nd) := Nat.mul_le_mul_right _ (by have := HL.out; omega)
            have := HL.out; omega) HB2.out.size ?_)
          intro v3 w3 hown3 hgrow3
          have HB3 := Lib.hid (HB2.out.grown hgrow3 HB2.out.size (fun g hg => HO2.out.lt g hg))
          have HO3 := Lib.hid (show Own w3 W.heap.size 5 .u8 v3 (nums (catF (zipK (ks.take (k + 1)) d))) by
            rw [take_snoc8 ks k (by rw [HN.out.1]; exact hlt), HX.out, zipK, List.map_append, catF_append, nums_append]
            show Own w3 W.heap.size 5 .u8 v3 (_ ++ nums (catF [(x, d)]))
            rw [catF_one]; exact hown3)
          clear hown3 hgrow3
          go_wp2_with fail
          go_roundw
          case rel => exact ⟨k + 1, by omega, by go_num, HO3, HB3⟩
          case measure => simp [intOf]; omega
        · obtain rfl : k = nk := by omega
          have hltz : ¬ (k : Int) < (k : Int) := by omega
          have ht : ks.take k = ks := by rw [← HN.out.1, List.take_length]
          have hcl := HCL.out k (Nat.le_refl _)
          rw [ht] at HO hcl
          obtain ⟨q, c, rfl, hqc, hqn, hrow⟩ := own_row HO.out
          rw [nums_length, hcl] at hqc HO ⊢
          have hall : AllIs (catF (zipK ks d)) (ks.map fun x => x :: d) (k * (7 + nd)) := by
            have := all_catF (zipK ks d) (fun x hx => by
              obtain ⟨y, _, rfl⟩ := List.mem_map.1 hx
              show d.length ≤ _; rw [HN.out.2]; have := HL.out; omega)
            rw [hcl] at this
            have e : (zipK ks d).map (fun x => x.1 :: x.2) = ks.map fun x => x :: d := by unfold zipK; rw [List.map_map]; rfl
            rwa [e] at this
          have hN : k * (7 + nd) ≤ 40 * (7 + nd) := Nat.mul_le_mul_right _ (by have := HL.out; omega)
          have hN2 : k * (7 + nd) ≤ 4280 := by have := HL.out; omega
          have CA := Lib.hid (all_own _ (by rw [hcl]; omega) _ _ hall _ _ wr HO.out)
          have HK := Lib.hid (show 0 < k → catF (zipK ks d) = frameL (ks.getD 0 0) d ++ catF (zipK (ks.drop 1) d) ∧ 7 + nd ≤ k * (7 + nd) from fun h => by
            refine ⟨?_, by have := Nat.mul_le_mul_right (7 + nd) h; omega⟩
            match ks, HN.out.1 with
            | [], h' => simp at h'; omega
            | x :: r, _ => rfl)
          obtain ⟨F, hF⟩ : ∃ F, catF (zipK ks d) = F := ⟨_, rfl⟩
          rw [hF] at hrow HO HK hcl
          obtain ⟨N, hNN⟩ : ∃ N, k * (7 + nd) = N := ⟨_, rfl⟩
          rw [hNN] at hcl hqc HO CA HK hN2 ⊢
          have HR := Lib.hid (And.intro hrow (And.intro hqc (And.intro hqn hcl)))
          have HN2 := Lib.hid hN2
          have H0N := Lib.hid (show k = 0 → N = 0 from fun h => by rw [← hNN, h, Nat.zero_mul])
          clear hrow hqc hqn hF hcl hall hN hNN hN2 HCL ht hk
          go_wp2_with fail
          refine CA.out.mono ?_
          rintro e w2 ⟨va, vs, rfl, hol, hit, hb2⟩
          obtain ⟨qa, ca, rfl, hlca, -, hcells⟩ := hol.row
          have hvl : vs.length = k := by rw [hit.1, List.length_map, HN.out.1]
          rw [hvl] at hlca ⊢
          have HB2 := Lib.hid (HB.out.trans (hb2.mono hsz))
          have HO2 := Lib.hid (below_own HO.out hb2)
          have HR2 := Lib.hid (HR.out.1.below hb2)
          have HI2 := Lib.hid hit
          have HC2 := Lib.hid hcells
          have HVL := Lib.hid hvl
          clear hol hit hcells hb2 hlca hvl CA
          go_wp2_with fail
          obtain ⟨n, hkn⟩ : ∃ n, k = n := ⟨_, rfl⟩
          have HKN := Lib.hid hkn
          go_loopw [11] (fun i wr => ∃ j : Nat, j ≤ n ∧ i = .int .i64 j ∧ Hid (Below w2.heap.size w2 wr)) (fun i _ => n - (intOf i).toNat)
          case atStart => exact ⟨0, Nat.zero_le _, rfl, Lib.hid (Below.refl _ _)⟩
          case round =>
            obtain ⟨j, hj, rfl, HBr⟩ := hrel
            have hk40 : k ≤ 40 := by have := HL.out; omega
            by_cases hlt : j < n
            · have hjz : (j : Int) < (n : Int) := by omega
              obtain ⟨b, o, rfl, hbl, hcell⟩ := byte_cell HP.out.1 (HB2.out.trans (HBr.out.mono HB2.out.size)) (show j < ks.length by rw [HN.out.1]; omega)
              obtain ⟨x, hx⟩ : ∃ x, ks.getD j 0 = x := ⟨_, rfl⟩
              rw [hx] at hcell
              obtain ⟨u, hu, hou⟩ := HI2.out.2 j (by rw [List.length_map, HN.out.1]; omega)
              have hrj : (ks.map fun x => x :: d).getD j [] = x :: d := by
                rw [← hx]; simp [List.getD, show j < ks.length by rw [HN.out.1]; omega]
              rw [hrj] at hou
              obtain ⟨qj, cj, rfl, hcj, -, hrowj⟩ := own_row hou
              rw [nums_length, List.length_cons, HN.out.2] at hcj hu
              obtain ⟨gj, oj, rfl, hgj⟩ := row_some hrowj (by simp)
              obtain ⟨g, rfl, hg, hcl⟩ : ∃ g, qa = some ⟨g, 0, none⟩ ∧ g < w2.heap.size ∧ w2.cell? ⟨g, j, none⟩ = some (.slice (some ⟨gj, oj, none⟩) (nd + 1) cj) := by
                rcases HC2.out with h | ⟨g, h1, h2, h3⟩
                · rw [h] at hu; simp at hu
                · exact ⟨g, h1, h2, h3 j _ hu⟩
              have c1 : wr.cell? ⟨g, j, none⟩ = some (.slice (some ⟨gj, oj, none⟩) (nd + 1) cj) := by rw [HBr.out.cell (p := ⟨g, j, none⟩) hg]; exact hcl
              have hrr : Row wr .u8 (some ⟨gj, oj, none⟩) (nums (x :: d)) := hrowj.below HBr.out
              have c2 : wr.cell? ⟨gj, oj, none⟩ = some (.int .u8 (x.toNat : Int)) := by
                obtain ⟨b', o', e, _, hc⟩ := byte_cell hrr (Below.refl _ _) (show 0 < (x :: d).length by simp)
                injection e with e; injection e with e1 e2; subst e1; subst e2
                exact hc
              have hsd := fun m => run_string (wr.drewN m) d pd cd (HP.out.2.1.below (below_drewN (HB2.out.trans (HBr.out.mono HB2.out.size)) m))
              rw [HN.out.2] at hsd
              have hndz : (nd : Int) ≤ 100 := by have := HL.out; omega
              have hlen : ((nd : Int) + 1 != 1 + (nd : Int)) = false := by simp; omega
              have hcjz : (1 : Int) ≤ (cj : Int) := by omega
              have hcjz2 : (nd : Int) + 1 ≤ (cj : Int) := by omega
              have h0z : (0 : Int) < (nd : Int) + 1 := by omega
              by_cases hc1 : cj = 1
              · have hnd0 : nd = 0 := by omega
                have hsx := fun m => run_string (wr.drewN m) [] (some ⟨gj, oj, none⟩) 0 (Or.inl rfl)
                have hd0 : d = [] := List.eq_nil_of_length_eq_zero (by rw [HN.out.2]; exact hnd0)
                subst hd0
                subst hc1
                subst hnd0
                simp only [List.length_nil] at hsx
                clear hrr hou hrj hu hrowj hcl hcj hcjz hcjz2 h0z hlen
                go_wp2_with fail
                go_quiet (fail)
                go_wp2_with fail
                go_roundw
                case rel => exact ⟨j + 1, by omega, by go_num, Lib.hid (below_drewN HBr.out _)⟩
                case measure => simp [intOf]; omega
              · have hsx := fun m => run_string (wr.drewN m) d (some ⟨gj, oj + 1, none⟩) (cj - 1) (row_drop (hrr.below (below_drewN (Below.refl _ _) m)) 1)
                rw [HN.out.2] at hsx
                clear hrr hou hrj hu hrowj hcl hcj
                go_wp2_with fail
                go_quiet (fail)
                go_wp2_with fail
                go_roundw
                case rel => exact ⟨j + 1, by omega, by go_num, Lib.hid (below_drewN HBr.out _)⟩
                case measure => simp [intOf]; omega
            · obtain rfl : j = n := by omega
              have hjz : ¬ (j : Int) < (j : Int) := by omega
              have HBW := Lib.hid (HB2.out.trans (HBr.out.mono HB2.out.size))
              have hk40 : k ≤ 40 := by have := HL.out; omega
              by_cases h0 : k = 0
              · have hN0 := H0N.out h0
                subst hN0
                go_wp2_with fail
                go_ret
                exact ⟨rfl, HBW.out⟩
              · obtain ⟨hFe, hN7⟩ := HK.out (by omega)
                have HOr := Lib.hid (below_own HO2.out HBr.out)
                obtain ⟨K, hK⟩ : ∃ K, ks.getD 0 0 = K := ⟨_, rfl⟩
                rw [hK] at hFe
                have hd7 : d.length = nd := HN.out.2
                obtain ⟨g, rfl, hgB, hgl, c2, f2⟩ := own_at HOr.out (show 2 < F.length by rw [HR.out.2.2.2]; omega)
                have e2 : F.getD 2 0 = K := by rw [hFe]; rfl
                rw [e2] at c2
                have hK8 : (K.toNat : Int) ≤ 255 := by have := u8_lt K; omega
                obtain ⟨wS, hwS⟩ : ∃ wS, wr.setCell ⟨g, 2, none⟩ (.int .u8 (((K.toNat : Int) + 1) % 256)) = wS := ⟨_, rfl⟩
                have hbS : Below W.heap.size W wS := hwS ▸ HBW.out.setCell hgB _
                have hrS : Row wS .u8 (some ⟨g, 0, none⟩) (nums (F.set 2 (K + 1))) := by
                  rw [← hwS, ← u8_succ]
                  exact row_set (HR2.out.below HBr.out) (by rw [HR.out.2.2.2]; omega) (K + 1)
                have CO := Lib.hid (open_bad (F.set 2 (K + 1)) 6 (by rw [hFe]; exact err_set_kind K d _ (by rw [hd7]; have := HL.out; omega) (K + 1) (u8_succ_ne K)) (by decide) (by rw [List.length_set, HR.out.2.2.2]; have := HN2.out; omega) N (by rw [List.length_set, HR.out.2.2.2]) (some ⟨g, 0, none⟩) c wS hrS HR.out.2.1)
                have HBS := Lib.hid hbS
                have hN0 : ((N : Int) == 0) = false := by simp; omega
                have hNz : (2 : Int) < (N : Int) := by omega
                clear hrS hbS hFe hd7 e2
                go_wp2_with fail
                refine CO.out.mono ?_
                rintro e w9 ⟨rfl, hb9⟩
                have HB9 := Lib.hid (HBS.out.trans (hb9.mono HBS.out.size))
                clear hb9
                go_wp2_with fail
                go_ret
                exact ⟨rfl, HB9.out⟩
end Go.Proofs.Ytdompocopbobiaa
