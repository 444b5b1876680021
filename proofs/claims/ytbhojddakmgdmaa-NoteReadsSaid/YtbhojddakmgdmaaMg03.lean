/-
  Several texts in one: PcPack, PcNums, PcTexts.
-/
import Derived.Test.YtbhojddakmgdmaaMg02
namespace Go.Proofs.Ytbhojddakmgdmaa
open Go.RowKit

/-- pure: a packer's steps. -/
def layS (M : Nat) : Option (List UInt8) → List UInt8 → Option (List UInt8)
  | none, _ => none
  | some b, l => if b.length + l.length ≤ M then some (b ++ l) else none
def numS (M : Nat) (st : Option (List UInt8)) (x : Int) : Option (List UInt8) := if 0 ≤ x ∧ x ≤ 268435455 then layS M st (be4 x.toNat) else none
def textS (M : Nat) (st : Option (List UInt8)) (l : List UInt8) : Option (List UInt8) := layS M (numS M st l.length) l
theorem layS_bd {M : Nat} {st : Option (List UInt8)} {l b : List UInt8} (h : layS M st l = some b) : b.length ≤ M := by
  cases st with
  | none => cases h
  | some c =>
    by_cases hc : c.length + l.length ≤ M
    · rw [show layS M (some c) l = some (c ++ l) from if_pos hc] at h
      injection h with h
      subst h
      rw [List.length_append]; exact hc
    · rw [show layS M (some c) l = none from if_neg hc] at h
      cases h

/-- what a step of a packer leaves. -/
structure Laid (w : World) (B g M : Nat) (st : Option (List UInt8)) (w' : World) : Prop where
  pk : PkAt w' B g M st
  bl : Below B w w'
  fr : Fr w w'
theorem Laid.trans {w w1 w2 : World} {B g M : Nat} {st st2 : Option (List UInt8)} (h : Laid w B g M st w1) (k : Laid w1 B g M st2 w2) : Laid w B g M st2 w2 := ⟨k.pk, h.bl.trans k.bl, h.fr.trans k.fr⟩
theorem Laid.refl {w : World} {B g M : Nat} {st : Option (List UInt8)} (h : PkAt w B g M st) : Laid w B g M st w := ⟨h, Below.refl _ _, Fr.refl _⟩
theorem Laid.alloc {w w1 : World} {B g M : Nat} {st : Option (List UInt8)} (h : Laid w B g M st w1) (hB : B ≤ w.heap.size) (o : Obj) : Laid w B g M st (w1.alloc o) :=
  have hb : Below w1.heap.size w1 (w1.alloc o) := (Below.refl _ _).alloc (Nat.le_refl _) o
  ⟨h.pk.below hb, h.bl.trans (hb.mono (Nat.le_trans hB h.bl.size)), h.fr.trans (Fr.of_below hb)⟩

theorem below_set {B g o : Nat} {u : Value} (w : World) (hg : B ≤ g) : Below B w (w.setCell ⟨g, o, none⟩ u) := (Below.refl B w).setCell (p := ⟨g, o, none⟩) hg u

set_option maxHeartbeats 400000 in
theorem refuse_any (w : World) (B g M : Nat) (st : Option (List UInt8)) (h : PkAt w B g M st) :
    Calls Try.prog 76 #[.pointer (some ⟨g, 0, none⟩)] w fun e w' => e = .returned (.tuple #[]) ∧ Laid w B g M none w' := by
  obtain ⟨v, h1, h2⟩ := h.at_
  have c1 := cell_at h1 1
  have f1 := frozen_at h1 1
  have h3 := set_at h1 1 (.slice none 0 0)
  have c2 := cell_at h3 2
  have f2 := frozen_at h3 2
  have h4 := set_at h3 2 (.bool true)
  have HL := Lib.hid (show Laid w B g M none ((w.setCell ⟨g, 1, none⟩ (.slice none 0 0)).setCell ⟨g, 2, none⟩ (.bool true)) from
    ⟨⟨h.lo, (fun b hb => absurd hb (by simp)), _, h4, Own.nil _ _ _ _⟩, (below_set _ h.lo).trans (below_set _ h.lo), (fr_set h1).trans (fr_set h3)⟩)
  clear h h1 h2 h3 h4
  go_enter Try.func76, Try.ntmps76
  go_wp2_with fail
  exact bodyPost_end (v := .tuple #[]) (by simp [results, Try.results76]) rfl ⟨rfl, HL.out⟩

set_option maxHeartbeats 1000000 in
theorem lay_anyU (w : World) (B g M : Nat) (st : Option (List UInt8)) (l : List UInt8) (hB : B ≤ w.heap.size) (h : PkAt w B g M st) (hM : M ≤ 9223372036854775807) (hr : st = none ∨ M ≤ 1000000000000 ∨ (st.getD []).length + l.length ≤ 1000000000000) :
    Calls Try.prog 77 #[.pointer (some ⟨g, 0, none⟩), .string (strB l)] w fun e w' => e = .returned (.tuple #[]) ∧ Laid w B g M (layS M st l) w' := by
  obtain ⟨v, h1, h2⟩ := h.at_
  have HH := Lib.hid h
  cases st with
  | none =>
    simp only [Option.isNone_none] at h1
    have c0 := cell_at h1 0
    have c1 := cell_at h1 1
    have c2 := cell_at h1 2
    clear h h1 h2
    go_enter Try.func77, Try.ntmps77
    go_wp2_with fail
    exact bodyPost_end (v := .tuple #[]) (by simp [results, Try.results77]) rfl ⟨rfl, Laid.refl HH.out⟩
  | some b =>
    have hr := hr.resolve_left (by simp)
    have hbM := h.bd b rfl
    obtain ⟨p, c, rfl, hc, hp0, hrow⟩ := own_row h2
    simp only [Option.getD_some, nums_length, Option.isNone_some] at h1 hr h2
    obtain ⟨K, hK⟩ : ∃ K, b.length = K := ⟨_, rfl⟩
    rw [hK] at hr hbM h1 h2
    have d0 := fun m => cell_at (w := w.drewN m) h1 0
    have d1 := fun m => cell_at (w := w.drewN m) h1 1
    have c0 := cell_at h1 0
    have c1 := cell_at h1 1
    have c2 := cell_at h1 2
    have H1 := Lib.hid h1
    have HO := Lib.hid h2
    have HN := Lib.hid hK
    have HR := Lib.hid hr
    have hMz : (M : Int) ≤ 9223372036854775807 := by omega
    have hKz : (K : Int) ≤ (M : Int) := by omega
    have hsz := strB_size l
    by_cases hfit : K + l.length ≤ M
    · have hgt : decide ((M : Int) - (K : Int) < ((strB l).size : Int)) = false := by rw [hsz]; simp; omega
      have HS := Lib.hid (show layS M (some b) l = some (b ++ l) from (if_pos (by rw [hK]; exact hfit)))
      have hbd : b.length + l.length ≤ 1000000000000 := by omega
      have HL := Lib.hid (And.intro hbd (show (b ++ l).length ≤ M by rw [List.length_append]; omega))
      clear h h1 h2 hrow hp0 hr hsz hK hfit hbM hc hbd
      go_enter Try.func77, Try.ntmps77
      go_wp2_with fail
      go_quiet (fail)
      go_wp2_with (at_builtin; refine wpList_own_str rfl _ _ rfl B _ b rfl (HO.out.drewN _) l rfl HL.out.1 hB ?_)
      intro v' w2 hown hgrow
      obtain ⟨p', c', rfl, -⟩ := own_row hown
      obtain ⟨N, hN⟩ : ∃ N, (nums (b ++ l)).length = N := ⟨_, rfl⟩
      rw [hN] at hown ⊢
      clear hN
      have hna := PkAt.apart H1.out HO.out
      have h5 : w2.heap[g]? = some (.cells #[.int .i64 M, .slice p K c, .bool false] 133 (0, 0)) := by
        rw [hgrow.block g (by have := HH.out.lt; exact this) hna]; exact H1.out
      have c5 := cell_at h5 1
      have f5 := frozen_at h5 1
      have h6 := set_at h5 1 (.slice p' N c')
      have HB2 := Lib.hid ((below_drewN (Below.refl B w) nq).grown hgrow hB fun g hg => HO.out.lt g hg)
      have HL2 := Lib.hid (show Laid w B g M (layS M (some b) l) (w2.setCell ⟨g, 1, none⟩ (.slice p' N c')) from HS.out ▸
        ⟨⟨HH.out.lo, (fun x hx => by injection hx with hx; rw [← hx]; exact HL.out.2), _, h6, own_set hown (PkAt.apart h5 hown)⟩,
          HB2.out.trans (below_set _ HH.out.lo),
          ((Fr.of_below (below_drewN (Below.refl _ w) nq)).trans (fr_grown (HO.out.drewN nq) hgrow)).trans (fr_set h5)⟩)
      clear hown hgrow hna h5 h6 HB2
      go_wp2_with fail
      exact bodyPost_end (v := .tuple #[]) (by simp [results, Try.results77]) rfl ⟨rfl, HL2.out⟩
    · have hgt : decide ((M : Int) - (K : Int) < ((strB l).size : Int)) = true := by rw [hsz]; simp; omega
      have HS := Lib.hid (show layS M (some b) l = none from (if_neg (by rw [hK]; exact hfit)))
      have CR := Lib.hid (fun m => refuse_any (w.drewN m) B g M (some b) (h.below (below_drewN (Below.refl _ _) m)))
      clear h h1 h2 hrow hp0 hr hsz hK hfit hbM hc
      go_enter Try.func77, Try.ntmps77
      go_wp2_with fail
      go_quiet (fail)
      go_wp2_with fail
      refine (CR.out nq).mono ?_
      rintro e w2 ⟨rfl, hl2⟩
      have HL2 := Lib.hid (show Laid w B g M (layS M (some b) l) w2 from HS.out ▸ ⟨hl2.pk, (below_drewN (Below.refl _ _) nq).trans hl2.bl, (Fr.of_below (below_drewN (Below.refl _ w) nq)).trans hl2.fr⟩)
      clear hl2
      go_wp2_with fail
      exact bodyPost_end (v := .tuple #[]) (by simp [results, Try.results77]) rfl ⟨rfl, HL2.out⟩
theorem lay_any (w : World) (B g M : Nat) (st : Option (List UInt8)) (l : List UInt8) (hB : B ≤ w.heap.size) (h : PkAt w B g M st) (hM : M ≤ 9223372036854775807) (hr : M ≤ 1000000000000 ∨ (st.getD []).length + l.length ≤ 1000000000000) :
    Calls Try.prog 77 #[.pointer (some ⟨g, 0, none⟩), .string (strB l)] w fun e w' => e = .returned (.tuple #[]) ∧ Laid w B g M (layS M st l) w' := lay_anyU w B g M st l hB h hM (Or.inr hr)
end Go.Proofs.Ytbhojddakmgdmaa
namespace Go.Proofs.Ytbhojddakmgdmaa
open Go.RowKit

def numsS (M : Nat) (st : Option (List UInt8)) (xs : List Int) : Option (List UInt8) := xs.foldl (numS M) st
theorem numS_none (M : Nat) (x : Int) : numS M none x = none := by
  unfold numS
  by_cases h : 0 ≤ x ∧ x ≤ 268435455
  · rw [if_pos h]; rfl
  · rw [if_neg h]
theorem numsS_none (M : Nat) : ∀ xs, numsS M none xs = none
  | [] => rfl
  | x :: xs => by
    show numsS M (numS M none x) xs = none
    rw [numS_none]; exact numsS_none M xs
theorem numsS_snoc (M : Nat) (st : Option (List UInt8)) (xs : List Int) (k : Nat) (h : k < xs.length) : numsS M st (xs.take (k + 1)) = numS M (numsS M st (xs.take k)) (xs.getD k 0) := by
  rw [List.take_succ_eq_append_getElem h]
  unfold numsS
  rw [List.foldl_append]
  simp [List.getD, h]
theorem numsS_bad (M : Nat) (st : Option (List UInt8)) (xs : List Int) (k : Nat) (h : k < xs.length) (hb : ¬ (0 ≤ xs.getD k 0 ∧ xs.getD k 0 ≤ 268435455)) : numsS M st xs = none := by
  have h1 : numsS M st (xs.take (k + 1)) = none := by rw [numsS_snoc M st xs k h]; exact if_neg hb
  have h2 : numsS M st xs = numsS M (numsS M st (xs.take (k + 1))) (xs.drop (k + 1)) := by
    show _ = List.foldl _ (List.foldl _ _ _) _
    rw [← List.foldl_append, List.take_append_drop]; rfl
  rw [h2, h1]; exact numsS_none M _
theorem layS_len (M : Nat) (st : Option (List UInt8)) (l : List UInt8) : ((layS M st l).getD []).length ≤ (st.getD []).length + l.length := by
  cases st with
  | none => simp [layS]
  | some b =>
    by_cases h : b.length + l.length ≤ M
    · rw [show layS M (some b) l = some (b ++ l) from if_pos h]; simp
    · rw [show layS M (some b) l = none from if_neg h]; simp
theorem numS_len (M : Nat) (st : Option (List UInt8)) (x : Int) : ((numS M st x).getD []).length ≤ (st.getD []).length + 4 := by
  unfold numS
  by_cases h : 0 ≤ x ∧ x ≤ 268435455
  · rw [if_pos h]; exact layS_len M st (be4 x.toNat)
  · rw [if_neg h]; simp
theorem numsS_len (M : Nat) : ∀ (xs : List Int) (st : Option (List UInt8)), ((numsS M st xs).getD []).length ≤ (st.getD []).length + 4 * xs.length
  | [], st => by simp [numsS]
  | x :: xs, st => by
    have h1 := numS_len M st x
    have h2 := numsS_len M xs (numS M st x)
    show ((numsS M (numS M st x) xs).getD []).length ≤ _
    rw [List.length_cons]; omega

theorem pcNums_be4 (n : Nat) : nums (be4 n) = [(n : Int) / 16777216 % 256, (n : Int) / 65536 % 256, (n : Int) / 256 % 256, (n : Int) % 256] := by
  simp [nums, be4]

theorem nums_be4s (n : Nat) (h : (n : Int) ≤ 268435455) : nums (be4 n) = [(n : Int) / 16777216, (n : Int) / 65536 % 256, (n : Int) / 256 % 256, (n : Int) % 256] := by
  rw [pcNums_be4, show (n : Int) / 16777216 % 256 = (n : Int) / 16777216 by omega]
theorem conv_be4 (n : Nat) (h : (n : Int) ≤ 268435455) (w : World) :
    (convert 22 9 (.slice (some ⟨w.heap.size, 0, none⟩) 4 4)).run Try.prog (w.alloc (.cells #[.int .u8 ((n : Int) / 16777216), .int .u8 ((n : Int) / 65536 % 256), .int .u8 ((n : Int) / 256 % 256), .int .u8 ((n : Int) % 256)] 5)) = .ok (.string (strB (be4 n))) (w.alloc (.cells #[.int .u8 ((n : Int) / 16777216), .int .u8 ((n : Int) / 65536 % 256), .int .u8 ((n : Int) / 256 % 256), .int .u8 ((n : Int) % 256)] 5)) := by
  have h1 := row_lit w .u8 5 (nums (be4 n))
  rw [nums_be4s n h] at h1
  exact run_string _ (be4 n) _ 4 (by rw [nums_be4s n h]; exact h1)

theorem ints_at (xs : List Int) (k : Nat) (h : k < xs.length) : ((xs.map (Value.int .i64)).toArray)[k]? = some (.int .i64 (xs.getD k 0)) := by
  simp [List.getD, h]
theorem int_packer : (3 : TypeId) ≠ 5 ∧ (3 : TypeId) ≠ 133 := by decide
theorem string_packer : (9 : TypeId) ≠ 5 ∧ (9 : TypeId) ≠ 133 := by decide

set_option maxHeartbeats 2000000 in
theorem numbers_any (w : World) (B g M b0 : Nat) (st : Option (List UInt8)) (xs : List Int) (hB : B ≤ w.heap.size) (h : PkAt w B g M st) (hM : M ≤ 9223372036854775807) (hr : M ≤ 1000000000000 ∨ (st.getD []).length + 4 * xs.length ≤ 1000000000000)
    (hx : w.heap[b0]? = some (.cells (xs.map (Value.int .i64)).toArray 3 (0, 0))) (hn : xs.length ≤ 1000000000000) :
    Calls Try.prog 52 #[.pointer (some ⟨g, 0, none⟩), .slice (some ⟨b0, 0, none⟩) xs.length xs.length] w fun e w' => e = .returned (.tuple #[]) ∧ Laid w B g M (numsS M st xs) w' := by
  have HH := Lib.hid h
  have HX := Lib.hid hx
  have CL := Lib.hid (fun w1 s l h1 h2 h3 => lay_any w1 B g M s l h1 h2 hM h3)
  have CR := Lib.hid (fun w1 s h1 => refuse_any w1 B g M s h1)
  obtain ⟨n, hN⟩ : ∃ n, xs.length = n := ⟨_, rfl⟩
  rw [hN] at hr hn ⊢
  have HN := Lib.hid hN
  have HR := Lib.hid hr
  clear h hx hr hN hM
  go_enter Try.func52, Try.ntmps52
  go_wp2_with fail
  go_loopw [8] (fun i wr => ∃ k : Nat, k ≤ n ∧ i = .int .i64 k ∧ Hid (Laid w B g M (numsS M st (xs.take k)) wr)) (fun i _ => n - (RowKit.intOf i).toNat)
  case atStart => exact ⟨0, Nat.zero_le _, rfl, Lib.hid (Laid.refl HH.out)⟩
  case round =>
    obtain ⟨k, hk, rfl, HL⟩ := hrel
    by_cases hlt : k < n
    · have hltz : (k : Int) < (n : Int) := by omega
      have hblk := HL.out.fr.keep b0 _ _ _ HX.out int_packer.1 int_packer.2
      have hcell := (cell_at hblk k).trans (ints_at xs k (by rw [HN.out]; exact hlt))
      have HB := Lib.hid hblk
      obtain ⟨x, hx⟩ : ∃ x, xs.getD k 0 = x := ⟨_, rfl⟩
      rw [hx] at hcell
      have HXK := Lib.hid hx
      clear hx hblk
      by_cases hx0 : 0 ≤ x
      · have hneg : decide (x < 0) = false := by simp; omega
        by_cases hx1 : x ≤ 268435455
        · have hbig : decide (x > 268435455) = false := by simp; omega
          obtain ⟨y, rfl⟩ : ∃ y : Nat, x = y := ⟨x.toNat, by omega⟩
          have hblen : (xs.take k).length ≤ n := by rw [List.length_take, HN.out]; omega
          have hlen := numsS_len M (xs.take k) st
          have hconv := conv_be4 y hx1 wr
          have HK := Lib.hid (show M ≤ 1000000000000 ∨ ((numsS M st (xs.take k)).getD []).length + (be4 y).length ≤ 1000000000000 by
            have h4 : (be4 y).length = 4 := rfl
            rw [h4]
            rw [List.length_take, HN.out, Nat.min_eq_left (by omega)] at hlen
            have := HR.out
            omega)
          have HL1 := Lib.hid (HL.out.alloc hB (.cells #[.int .u8 ((y : Int) / 16777216), .int .u8 ((y : Int) / 65536 % 256), .int .u8 ((y : Int) / 256 % 256), .int .u8 ((y : Int) % 256)] 5))
          have HS := Lib.hid (show numsS M st (xs.take (k + 1)) = layS M (numsS M st (xs.take k)) (be4 y) by
            rw [numsS_snoc M st xs k (by rw [HN.out]; exact hlt), HXK.out]
            rw [show numS M (numsS M st (xs.take k)) (y : Int) = _ from if_pos ⟨hx0, hx1⟩, Int.toNat_natCast])
          clear hlen hblen
          go_wp2_with fail
          refine (CL.out _ _ (be4 y) (Nat.le_trans hB HL1.out.bl.size) HL1.out.pk HK.out).mono ?_
          rintro e w2 ⟨rfl, hl2⟩
          have HL2 := Lib.hid (show Laid w B g M (numsS M st (xs.take (k + 1))) w2 from HS.out ▸ HL1.out.trans hl2)
          clear hl2 hconv
          go_wp2_with fail
          go_roundw
          case rel => exact ⟨k + 1, by omega, by go_num, HL2⟩
          case measure => simp [RowKit.intOf]; omega
        · have hbig : decide (x > 268435455) = true := by simp; omega
          go_wp2_with fail
          refine (CR.out wr _ HL.out.pk).mono ?_
          rintro e w2 ⟨rfl, hl2⟩
          have HL2 := Lib.hid (show Laid w B g M (numsS M st xs) w2 by
            rw [numsS_bad M st xs k (by rw [HN.out]; exact hlt) (by rw [HXK.out]; omega)]; exact HL.out.trans hl2)
          clear hl2
          go_wp2_with fail
          exact bodyPost_ret (v := .tuple #[]) (by simp [results, Try.results52]) rfl ⟨rfl, HL2.out⟩
      · have hneg : decide (x < 0) = true := by simp; omega
        go_wp2_with fail
        refine (CR.out wr _ HL.out.pk).mono ?_
        rintro e w2 ⟨rfl, hl2⟩
        have HL2 := Lib.hid (show Laid w B g M (numsS M st xs) w2 by
          rw [numsS_bad M st xs k (by rw [HN.out]; exact hlt) (by rw [HXK.out]; omega)]; exact HL.out.trans hl2)
        clear hl2
        go_wp2_with fail
        exact bodyPost_ret (v := .tuple #[]) (by simp [results, Try.results52]) rfl ⟨rfl, HL2.out⟩
    · obtain rfl : k = n := by omega
      have hltz : ¬ (k : Int) < (k : Int) := by omega
      have HL2 := Lib.hid (show Laid w B g M (numsS M st xs) wr by
        have := HL.out
        rwa [← HN.out, List.take_length] at this)
      go_wp2_with fail
      exact bodyPost_end (v := .tuple #[]) (by simp [results, Try.results52]) rfl ⟨rfl, HL2.out⟩
end Go.Proofs.Ytbhojddakmgdmaa
namespace Go.Proofs.Ytbhojddakmgdmaa
open Go.RowKit

def textsS (M : Nat) (st : Option (List UInt8)) (xs : List (List UInt8)) : Option (List UInt8) := xs.foldl (textS M) st
theorem textsS_snoc (M : Nat) (st : Option (List UInt8)) (xs : List (List UInt8)) (k : Nat) (h : k < xs.length) : textsS M st (xs.take (k + 1)) = textS M (textsS M st (xs.take k)) (xs.getD k []) := by
  rw [List.take_succ_eq_append_getElem h]
  unfold textsS
  rw [List.foldl_append]
  simp [List.getD, h]
/-- how many bytes of a text are laid at most: of one that is too long none. -/
def tlU (l : List UInt8) : Nat := if l.length < 268435456 then l.length else 0
theorem tlU_le (l : List UInt8) : tlU l ≤ l.length := by unfold tlU; split <;> omega
theorem tlU_lt (l : List UInt8) : tlU l < 268435456 := by unfold tlU; split <;> omega
theorem numS_big {M : Nat} {st : Option (List UInt8)} {l : List UInt8} (h : ¬ l.length < 268435456) : numS M st (l.length : Int) = none := if_neg (by omega)
def sizeU (xs : List (List UInt8)) : Nat := xs.foldr (fun l n => 4 + tlU l + n) 0
theorem textS_lenU (M : Nat) (st : Option (List UInt8)) (l : List UInt8) : ((textS M st l).getD []).length ≤ (st.getD []).length + 4 + tlU l := by
  by_cases h : l.length < 268435456
  · have h1 := numS_len M st l.length
    have h2 := layS_len M (numS M st l.length) l
    rw [show tlU l = l.length from if_pos h]
    unfold textS; omega
  · have : textS M st l = none := by unfold textS; rw [numS_big h]; rfl
    rw [this]; exact Nat.zero_le _
theorem textsS_lenU (M : Nat) : ∀ (xs : List (List UInt8)) (st : Option (List UInt8)), ((textsS M st xs).getD []).length ≤ (st.getD []).length + sizeU xs
  | [], st => by simp [textsS, sizeU]
  | x :: xs, st => by
    have h1 := textS_lenU M st x
    have h2 := textsS_lenU M xs (textS M st x)
    show ((textsS M (textS M st x) xs).getD []).length ≤ _
    show _ ≤ _ + (4 + tlU x + sizeU xs)
    omega
theorem sizeU_take : ∀ (xs : List (List UInt8)) (k : Nat), k < xs.length → sizeU (xs.take k) + (4 + tlU (xs.getD k [])) ≤ sizeU xs
  | [], k, h => by simp at h
  | x :: xs, 0, _ => by
    show 0 + (4 + tlU x) ≤ 4 + tlU x + sizeU xs
    omega
  | x :: xs, k + 1, h => by
    have := sizeU_take xs k (by simpa using h)
    show 4 + tlU x + sizeU (xs.take k) + (4 + tlU (xs.getD k [])) ≤ 4 + tlU x + sizeU xs
    omega
def sizeT (xs : List (List UInt8)) : Nat := xs.foldr (fun l n => 4 + l.length + n) 0
theorem textS_len (M : Nat) (st : Option (List UInt8)) (l : List UInt8) : ((textS M st l).getD []).length ≤ (st.getD []).length + 4 + l.length := by
  have h1 := numS_len M st l.length
  have h2 := layS_len M (numS M st l.length) l
  unfold textS; omega
theorem textsS_len (M : Nat) : ∀ (xs : List (List UInt8)) (st : Option (List UInt8)), ((textsS M st xs).getD []).length ≤ (st.getD []).length + sizeT xs
  | [], st => by simp [textsS, sizeT]
  | x :: xs, st => by
    have h1 := textS_len M st x
    have h2 := textsS_len M xs (textS M st x)
    show ((textsS M (textS M st x) xs).getD []).length ≤ _
    show _ ≤ _ + (4 + x.length + sizeT xs)
    omega
theorem sizeT_take : ∀ (xs : List (List UInt8)) (k : Nat), k < xs.length → sizeT (xs.take k) + (4 + (xs.getD k []).length) ≤ sizeT xs
  | [], k, h => by simp at h
  | x :: xs, 0, _ => by
    show 0 + (4 + x.length) ≤ 4 + x.length + sizeT xs
    omega
  | x :: xs, k + 1, h => by
    have := sizeT_take xs k (by simpa using h)
    show 4 + x.length + sizeT (xs.take k) + (4 + (xs.getD k []).length) ≤ 4 + x.length + sizeT xs
    omega
theorem texts_at (xs : List (List UInt8)) (k : Nat) (h : k < xs.length) : ((xs.map fun l => Value.string (strB l)).toArray)[k]? = some (.string (strB (xs.getD k []))) := by
  simp [List.getD, h]

set_option maxHeartbeats 2000000 in
theorem texts_anyU (w : World) (B g M b0 : Nat) (st : Option (List UInt8)) (xs : List (List UInt8)) (hB : B ≤ w.heap.size) (h : PkAt w B g M st) (hM : M ≤ 9223372036854775807) (hr : M ≤ 1000000000000 ∨ (st.getD []).length + sizeU xs ≤ 1000000000000)
    (hx : w.heap[b0]? = some (.cells (xs.map fun l => Value.string (strB l)).toArray 9 (0, 0))) (hn : xs.length ≤ 1000000000000) :
    Calls Try.prog 56 #[.pointer (some ⟨g, 0, none⟩), .slice (some ⟨b0, 0, none⟩) xs.length xs.length] w fun e w' => e = .returned (.tuple #[]) ∧ Laid w B g M (textsS M st xs) w' := by
  have HH := Lib.hid h
  have HX := Lib.hid hx
  have CL := Lib.hid (fun w1 s l h1 h2 h3 => lay_anyU w1 B g M s l h1 h2 hM h3)
  have CN := Lib.hid (fun w1 b1 s x h1 h2 h3 h4 => numbers_any w1 B g M b1 s [x] h1 h2 hM h3 h4 (by simp))
  obtain ⟨n, hN⟩ : ∃ n, xs.length = n := ⟨_, rfl⟩
  rw [hN] at hn ⊢
  have HN := Lib.hid hN
  have HR := Lib.hid hr
  clear h hx hr hN hM
  go_enter Try.func56, Try.ntmps56
  go_wp2_with fail
  go_loopw [8] (fun i wr => ∃ k : Nat, k ≤ n ∧ i = .int .i64 k ∧ Hid (Laid w B g M (textsS M st (xs.take k)) wr)) (fun i _ => n - (RowKit.intOf i).toNat)
  case atStart => exact ⟨0, Nat.zero_le _, rfl, Lib.hid (Laid.refl HH.out)⟩
  case round =>
    obtain ⟨k, hk, rfl, HL⟩ := hrel
    by_cases hlt : k < n
    · have hltz : (k : Int) < (n : Int) := by omega
      have hcell := (cell_at (HL.out.fr.keep b0 _ _ _ HX.out string_packer.1 string_packer.2) k).trans (texts_at xs k (by rw [HN.out]; exact hlt))
      obtain ⟨x, hx⟩ : ∃ x, xs.getD k [] = x := ⟨_, rfl⟩
      rw [hx] at hcell
      have hlen := textsS_lenU M (xs.take k) st
      have hlen2 := sizeU_take xs k (by rw [HN.out]; exact hlt)
      rw [hx] at hlen2
      have hsz := strB_size x
      have HK := Lib.hid (show M ≤ 1000000000000 ∨ ((textsS M st (xs.take k)).getD []).length + 4 + tlU x ≤ 1000000000000 by
        have := HR.out
        omega)
      have HL1 := Lib.hid (HL.out.alloc hB (.cells #[.int .i64 ((strB x).size : Int)] 3))
      have HC := Lib.hid (CN.out (wr.alloc (.cells #[.int .i64 ((strB x).size : Int)] 3)) wr.heap.size (textsS M st (xs.take k)) ((strB x).size : Int) (Nat.le_trans hB HL1.out.bl.size) HL1.out.pk (by have := HK.out; simp only [List.length_singleton]; omega) (by show (wr.heap.push _)[wr.heap.size]? = _; simp))
      have HS := Lib.hid (show textsS M st (xs.take (k + 1)) = layS M (numsS M (textsS M st (xs.take k)) [((strB x).size : Int)]) x by
        rw [textsS_snoc M st xs k (by rw [HN.out]; exact hlt), hx, hsz]; rfl)
      have HSZ := Lib.hid hsz
      clear hlen hlen2 hsz hx
      go_wp2_with fail
      refine HC.out.mono ?_
      rintro e w2 ⟨rfl, hl2⟩
      have HL2 := Lib.hid (HL1.out.trans hl2)
      have HC2 := Lib.hid (CL.out w2 _ x (Nat.le_trans hB HL2.out.bl.size) HL2.out.pk (by
        by_cases hx28 : x.length < 268435456
        · have h1 := numsS_len M [((strB x).size : Int)] (textsS M st (xs.take k))
          rw [List.length_singleton] at h1
          have h2 : tlU x = x.length := if_pos hx28
          have := HK.out; omega
        · exact Or.inl (by rw [HSZ.out]; exact numS_big hx28)))
      clear hl2
      go_wp2_with fail
      refine HC2.out.mono ?_
      rintro e w3 ⟨rfl, hl3⟩
      have HL3 := Lib.hid (show Laid w B g M (textsS M st (xs.take (k + 1))) w3 from HS.out ▸ HL2.out.trans hl3)
      clear hl3
      go_wp2_with fail
      go_roundw
      case rel => exact ⟨k + 1, by omega, by go_num, HL3⟩
      case measure => simp [RowKit.intOf]; omega
    · obtain rfl : k = n := by omega
      have hltz : ¬ (k : Int) < (k : Int) := by omega
      have HL2 := Lib.hid (show Laid w B g M (textsS M st xs) wr by
        have := HL.out
        rwa [← HN.out, List.take_length] at this)
      go_wp2_with fail
      exact bodyPost_end (v := .tuple #[]) (by simp [results, Try.results56]) rfl ⟨rfl, HL2.out⟩

theorem sizeU_le : ∀ xs, sizeU xs ≤ sizeT xs
  | [] => Nat.le_refl _
  | x :: xs => by
    have h1 := sizeU_le xs
    have h2 := tlU_le x
    show 4 + tlU x + sizeU xs ≤ 4 + x.length + sizeT xs
    omega
theorem texts_any (w : World) (B g M b0 : Nat) (st : Option (List UInt8)) (xs : List (List UInt8)) (hB : B ≤ w.heap.size) (h : PkAt w B g M st) (hM : M ≤ 9223372036854775807) (hr : M ≤ 1000000000000 ∨ (st.getD []).length + sizeT xs ≤ 1000000000000)
    (hx : w.heap[b0]? = some (.cells (xs.map fun l => Value.string (strB l)).toArray 9 (0, 0))) (hn : xs.length ≤ 1000000000000) :
    Calls Try.prog 56 #[.pointer (some ⟨g, 0, none⟩), .slice (some ⟨b0, 0, none⟩) xs.length xs.length] w fun e w' => e = .returned (.tuple #[]) ∧ Laid w B g M (textsS M st xs) w' :=
  texts_anyU w B g M b0 st xs hB h hM (by have := sizeU_le xs; omega) hx hn

def truthS (M : Nat) (st : Option (List UInt8)) (t : Bool) : Option (List UInt8) := layS M st (encB t)
set_option maxHeartbeats 1000000 in
theorem truth_any (w : World) (B g M : Nat) (st : Option (List UInt8)) (t : Bool) (hB : B ≤ w.heap.size) (h : PkAt w B g M st) (hM : M ≤ 1000000000000) :
    Calls Try.prog 78 #[.pointer (some ⟨g, 0, none⟩), .bool t] w fun e w' => e = .returned (.tuple #[]) ∧ Laid w B g M (truthS M st t) w' := by
  have C1 := Lib.hid (show Calls Try.prog 77 #[.pointer (some ⟨g, 0, none⟩), .string ⟨#[1]⟩] w _ from lay_any w B g M st (encB true) hB h (by omega) (Or.inl hM))
  have C0 := Lib.hid (show Calls Try.prog 77 #[.pointer (some ⟨g, 0, none⟩), .string ⟨#[0]⟩] w _ from lay_any w B g M st (encB false) hB h (by omega) (Or.inl hM))
  clear h
  cases t with
  | true =>
    go_enter Try.func78, Try.ntmps78
    go_wp2_with fail
    refine C1.out.mono ?_
    rintro e w2 ⟨rfl, hl2⟩
    have HL := Lib.hid hl2
    clear hl2
    go_wp2_with fail
    exact bodyPost_end (v := .tuple #[]) (by simp [results, Try.results78]) rfl ⟨rfl, HL.out⟩
  | false =>
    go_enter Try.func78, Try.ntmps78
    go_wp2_with fail
    refine C0.out.mono ?_
    rintro e w2 ⟨rfl, hl2⟩
    have HL := Lib.hid hl2
    clear hl2
    go_wp2_with fail
    exact bodyPost_end (v := .tuple #[]) (by simp [results, Try.results78]) rfl ⟨rfl, HL.out⟩

theorem packer_new (w : World) (M : Nat) : PkAt (w.alloc (.cells #[.int .i64 M, .slice none 0 0, .bool false] 133)) w.heap.size w.heap.size M (some []) :=
  ⟨Nat.le_refl _, (fun b hb => by injection hb with hb; rw [← hb]; exact Nat.zero_le _), .slice none 0 0, by
    show (w.heap.push _)[w.heap.size]? = _
    simp, Own.nil _ _ _ _⟩
set_option maxHeartbeats 400000 in
theorem pcNew_any (w : World) (M : Nat) :
    Calls Try.prog 51 #[.int .i64 M] w fun e w' => e = .returned (.pointer (some ⟨w.heap.size, 0, none⟩)) ∧ PkAt w' w.heap.size w.heap.size M (some []) ∧ Below w.heap.size w w' := by
  have HP := Lib.hid (packer_new w M)
  go_enter Try.func51, Try.ntmps51
  go_wp2_with fail
  go_ret
  exact ⟨rfl, HP.out, (Below.refl _ _).alloc (Nat.le_refl _) _⟩

def errP (st : Option (List UInt8)) : Int := if st.isNone then 1 else 0
/-- what Packed answers. -/
def RetPk (B : Nat) (st : Option (List UInt8)) (w : World) (e : Ending) (w' : World) : Prop :=
  ∃ v, e = .returned (.tuple #[v, .int .i64 (errP st)]) ∧ Own w' B 5 .u8 v (nums (st.getD [])) ∧ Below B w w'
set_option maxHeartbeats 1000000 in
theorem packed_any (w : World) (B g M : Nat) (st : Option (List UInt8)) (h : PkAt w B g M st) :
    Calls Try.prog 63 #[.pointer (some ⟨g, 0, none⟩)] w (RetPk B st w) := by
  obtain ⟨v, h1, h2⟩ := h.at_
  obtain ⟨p, c, rfl, hc, hp0, hrow⟩ := own_row h2
  obtain ⟨K, hK⟩ : ∃ K, (nums (st.getD [])).length = K := ⟨_, rfl⟩
  rw [hK] at h1 h2
  have d1 := fun m => cell_at (w := w.drewN m) h1 1
  have d2 := fun m => cell_at (w := w.drewN m) h1 2
  have e1 := fun m => frozen_at (w := w.drewN m) h1 1
  have h3 := fun m => set_at (w := w.drewN m) h1 1 (.slice none 0 0)
  have e2 := fun m => frozen_at (h3 m) 2
  have c2 := fun m => cell_at (h3 m) 2
  have HO := Lib.hid (show ∀ m, Own (((w.drewN m).setCell ⟨g, 1, none⟩ (.slice none 0 0)).setCell ⟨g, 2, none⟩ (.bool false)) B 5 .u8 (.slice p K c) (nums (st.getD [])) from fun m => own_set (own_set (h2.drewN m) (PkAt.apart h1 h2)) (PkAt.apart h1 h2))
  have HB := Lib.hid (show ∀ m, Below B w (((w.drewN m).setCell ⟨g, 1, none⟩ (.slice none 0 0)).setCell ⟨g, 2, none⟩ (.bool false)) from fun m => ((below_drewN (Below.refl _ _) m).trans (below_set _ h.lo)).trans (below_set _ h.lo))
  clear h h1 h2 h3 hc hp0 hrow hK
  cases st with
  | none =>
    go_enter Try.func63, Try.ntmps63
    go_wp2_with fail
    go_quiet (fail)
    go_wp2_with fail
    go_ret2
    exact ⟨_, rfl, Own.nil _ _ _ _, HB.out _⟩
  | some b =>
    go_enter Try.func63, Try.ntmps63
    go_wp2_with fail
    go_quiet (fail)
    go_wp2_with fail
    go_ret2
    exact ⟨_, rfl, HO.out _, HB.out _⟩
end Go.Proofs.Ytbhojddakmgdmaa
