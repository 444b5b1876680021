/-
  Several texts in one: JnMath, JnRecs, JnList, JnPack, JnShort, JnRdRec, JnRdLst.
-/
import Derived.Test.YtlbkpgpkokgcbaaPcRdRep
import Derived.Test.YtlbkpgpkokgcbaaPcLstM
import Derived.Tactics2
import Derived.Recover
import Derived.Laws.EntriesVeiled
import Derived.Test.YtlbkpgpkokgcbaaSlFirst
namespace Go.Proofs.Ytlbkpgpkokgcbaa
open Go.RowKit

/-- the bytes of a list of records. -/
def recsL (ls : List RecL) : List UInt8 := (Codec.list textC).enc (ls.map recC.enc)
theorem rec_texts (M : Nat) (r : RecL) (h1 : r.1.length ≤ 268435455) (h2 : r.2.length ≤ 268435455) (h : 8 + r.1.length + r.2.length ≤ M) : textsS M (some []) [r.1, r.2] = some (recC.enc r) := by
  rw [texts_room M [r.1, r.2] [] (by intro x hx; simp only [List.mem_cons, List.not_mem_nil, or_false] at hx; rcases hx with rfl | rfl <;> assumption) (by show 0 + (4 + _ + (4 + _ + 0)) ≤ M; omega)]
  show some ([] ++ (textC.enc r.1 ++ (textC.enc r.2 ++ []))) = some (textC.enc r.1 ++ textC.enc r.2)
  rw [List.nil_append, List.append_nil]
theorem encT_len (s : List UInt8) : (textC.enc s).length = 4 + s.length := by show (be4 _ ++ s).length = _; rw [List.length_append]; rfl
theorem rec_len (r : RecL) : (recC.enc r).length = 8 + r.1.length + r.2.length := by
  show (textC.enc r.1 ++ textC.enc r.2).length = _
  rw [List.length_append, encT_len, encT_len]; omega
def sumRec (ls : List RecL) : Nat := sumL3 (ls.map recC.enc)
theorem rec_mem (ls : List RecL) (r : RecL) (h : r ∈ ls) : 8 + r.1.length + r.2.length ≤ sumRec ls := by
  have := sum_mem (ls.map recC.enc) (recC.enc r) (List.mem_map_of_mem h)
  rw [rec_len] at this
  exact this
theorem recsL_len (ls : List RecL) : (recsL ls).length = 4 + 4 * ls.length + sumRec ls := by
  unfold recsL sumRec
  rw [encL_len, List.length_map]

/-- a deed. -/
structure DeedL where
  d : Int
  a : AskL
  e : Int
  f : List UInt8
  t : List UInt8
  ep : Int
  ls : List RecL
def jdCells (x : DeedL) (p : Option Addr) (k : Nat) : Array Value := #[.int .i64 x.d, .int .i64 x.a.d, .int .i64 x.a.c, .int .i64 x.a.s, .string (strB x.a.t), .string (strB x.a.v), .string (strB x.a.f), .string (strB x.a.u), .int .i64 x.a.m, .int .i64 x.e, .string (strB x.f), .string (strB x.t), .int .i64 x.ep, .slice p x.ls.length k]
def jdV (x : DeedL) (p : Option Addr) (k : Nat) : Value := .agg #[.int .i64 x.d, .int .i64 x.a.d, .int .i64 x.a.c, .int .i64 x.a.s, .string (strB x.a.t), .string (strB x.a.v), .string (strB x.a.f), .string (strB x.a.u), .int .i64 x.a.m, .int .i64 x.e, .string (strB x.f), .string (strB x.t), .int .i64 x.ep, .slice p x.ls.length k]
/-- what Pack lays. -/
def packA (x : DeedL) (a : List UInt8) : Option (List UInt8) := textsS 9223372036854775807 (numsS 9223372036854775807 (some []) [x.d, x.e, x.ep]) [x.f, x.t, a, recsL x.ls]
def packS (x : DeedL) : Option (List UInt8) :=
  match askS x.a with
  | none => none
  | some a => packA x a
theorem askS_len {a : AskL} {b : List UInt8} (h : askS a = some b) : b.length ≤ 32768 := by
  unfold askS at h
  generalize numsS 32768 (some []) [a.d, a.c, a.s, a.m] = s at h
  show b.length ≤ 32768
  have h2 : layS 32768 (numS 32768 (textsS 32768 s [a.t, a.v, a.f]) a.u.length) a.u = some b := h
  exact layS_bd h2

/-- the parts of a deed, one behind the other. -/
def deedC : Codec (Nat × Nat × Nat × List UInt8 × List UInt8 × List UInt8 × List UInt8) :=
  numC.pair (numC.pair (numC.pair (textC.pair (textC.pair (textC.pair textC)))))
theorem deed_seq (st : St) : rdR deedC st = rdR textC (rdR textC (rdR textC (rdR textC (rdR numC (rdR numC (rdR numC st)))))) := by
  unfold deedC
  simp only [rdR_pair]
theorem deed_vals (st : St) {r : List UInt8} (h : rdR deedC st = .ok r) : rdV deedC (0, 0, 0, [], [], [], []) st =
    (rdV numC 0 st, rdV numC 0 (rdR numC st), rdV numC 0 (rdR numC (rdR numC st)), rdV textC [] (rdR numC (rdR numC (rdR numC st))), rdV textC [] (rdR textC (rdR numC (rdR numC (rdR numC st)))), rdV textC [] (rdR textC (rdR textC (rdR numC (rdR numC (rdR numC st))))), rdV textC [] (rdR textC (rdR textC (rdR textC (rdR numC (rdR numC (rdR numC st))))))) := by
  unfold deedC at h ⊢
  rw [rdV_pair _ _ _ _ h]
  rw [rdR_pair] at h
  rw [rdV_pair _ _ _ _ h]
  rw [rdR_pair] at h
  rw [rdV_pair _ _ _ _ h]
  rw [rdR_pair] at h
  rw [rdV_pair _ _ _ _ h]
  rw [rdR_pair] at h
  rw [rdV_pair _ _ _ _ h]
  rw [rdR_pair] at h
  rw [rdV_pair _ _ _ _ h]

/-- is a text that is to come not there wholly? -/
def shortT : Nat → List UInt8 → Bool
  | 0, _ => false
  | n + 1, b => if b.length < 4 then true else if (b.drop 4).length < numL (b.take 4) then true else shortT n ((b.drop 4).drop (numL (b.take 4)))
def shortB (b : List UInt8) : Bool := if b.length < 12 then true else shortT 4 (b.drop 12)
end Go.Proofs.Ytlbkpgpkokgcbaa
namespace Go.Proofs.Ytlbkpgpkokgcbaa
open Go.RowKit

theorem set_same {w : World} {g o : Nat} {v : Value} (h : w.cell? ⟨g, o, none⟩ = some v) : w.setCell ⟨g, o, none⟩ v = w := by
  have hm : (w.setCell ⟨g, o, none⟩ v).heap = w.heap := by
    apply Array.ext
    · simp [World.setCell]
    · intro i h1 h2
      simp only [World.setCell, Array.getElem_modify]
      by_cases hi : g = i
      · subst hi
        rw [if_pos rfl]
        have hx : w.heap[g]? = some w.heap[g] := Array.getElem?_eq_getElem h2
        generalize w.heap[g] = x at hx ⊢
        cases x with
        | cells c e f =>
          simp only [World.cell?, hx] at h
          have hc : c[o]? = some v := by simpa using h
          obtain ⟨ho, hv⟩ := Array.getElem?_eq_some_iff.1 hc
          simp only [Option.isSome_none, Bool.false_eq_true, if_false]
          congr 1
          rw [← hv]
          apply Array.ext
          · simp
          · intro j _ _
            rw [Array.getElem_setIfInBounds (by assumption)]
            split
            · subst_vars; rfl
            · rfl
        | _ => rfl
      · rw [if_neg hi]
  exact congrArg (fun H => ({ w with heap := H } : World)) hm

theorem jnew_any (w : World) : Calls Try.prog 20 #[] w fun e w' => e = .returned (.pointer (some ⟨w.heap.size, 0, none⟩)) ∧ PkAt w' w.heap.size w.heap.size 9223372036854775807 (some []) ∧ Below w.heap.size w w' := by
  have CN := Lib.hid (pcNew_any w 9223372036854775807)
  go_enter Try.func20, Try.ntmps20
  go_wp2_with fail
  refine CN.out.mono ?_
  rintro e w1 ⟨rfl, hp, hb⟩
  have H := Lib.hid (And.intro hp hb)
  clear hp hb
  go_wp2_with fail
  go_ret
  exact ⟨rfl, H.out⟩

set_option maxHeartbeats 1000000 in
/-- a record packed: nothing is refused. -/
theorem one_rec (x : RecL) (R : Nat) (w : World) (hR : w.heap[R]? = some (.cells #[.bool false] 4 (0, 0))) (h : 8 + x.1.length + x.2.length ≤ 200000) :
    Calls Try.prog 39 #[.agg #[.string (strB x.1), .string (strB x.2)], .pointer (some ⟨R, 0, none⟩)] w fun e w' => ∃ v, e = .returned v ∧ Own w' w.heap.size 5 .u8 v (nums (recC.enc x)) ∧ Below w.heap.size w w' := by
  have hRlt : R < w.heap.size := (Array.getElem?_eq_some_iff.1 hR).1
  obtain ⟨W0, hW0⟩ : ∃ W0, w.alloc (.cells #[.string (strB x.1), .string (strB x.2)] 30) = W0 := ⟨_, rfl⟩
  have hz0 : W0.heap.size = w.heap.size + 1 := by rw [← hW0]; simp
  have hal : Below w.heap.size w W0 := hW0 ▸ (Below.refl _ _).alloc (Nat.le_refl _) _
  have CJ := Lib.hid (jnew_any W0)
  rw [hz0] at CJ
  have HC := Lib.hid (show ∀ wr, Below (w.heap.size + 1) W0 wr → ∀ i, wr.cell? ⟨w.heap.size, i, none⟩ = _ from fun wr hb i => box_cells (hW0 ▸ hb) i)
  have HRB := Lib.hid (show ∀ wr, Below w.heap.size w wr → wr.heap[R]? = some (.cells #[.bool false] 4 (0, 0)) from fun wr hb => by rw [hb.block R hRlt]; exact hR)
  have HBW := Lib.hid hal
  have HE := Lib.hid (rec_texts 9223372036854775807 x (by omega) (by omega) (by omega))
  have HH := Lib.hid h
  obtain ⟨Y, hY⟩ : ∃ Y, recC.enc x = Y := ⟨_, rfl⟩
  obtain ⟨x1, x2⟩ := x
  simp only at HE HH hW0 HC ⊢
  rw [hY] at HE ⊢
  clear hY hR hal hRlt h
  go_enter Try.func39, Try.ntmps39
  go_wp2_with fail
  clear hW0
  refine CJ.out.mono ?_
  rintro e w1 ⟨rfl, hp1, hb1⟩
  have c0 := HC.out w1 hb1 0
  have c1 := HC.out w1 hb1 1
  have HB1 := Lib.hid hb1
  have hal1 : Below w1.heap.size w1 (w1.alloc (.cells #[.string (strB x1), .string (strB x2)] 9)) := (Below.refl _ _).alloc (Nat.le_refl _) _
  have hz1 : w.heap.size + 1 ≤ w1.heap.size := by have := hb1.size; omega
  have HBA := Lib.hid (hb1.trans (hal1.mono hz1))
  have CT := Lib.hid (texts_any (w1.alloc (.cells #[.string (strB x1), .string (strB x2)] 9)) (w.heap.size + 1) (w.heap.size + 1) 9223372036854775807 w1.heap.size (some []) [x1, x2] (by simp; omega) (hp1.below hal1) (by omega) (Or.inr (by show 0 + (4 + _ + (4 + _ + 0)) ≤ 1000000; have := HH.out; omega)) (new_block _ _ _) (by simp) : Calls Try.prog 22 #[.pointer (some ⟨w.heap.size + 1, 0, none⟩), .slice (some ⟨w1.heap.size, 0, none⟩) 2 2] _ _)
  rw [HE.out] at CT
  clear hp1 hb1 hal1 hz1
  go_wp2_with fail
  refine CT.out.mono ?_
  rintro e w2 ⟨rfl, hl2⟩
  have HB2 := Lib.hid (HBA.out.trans hl2.bl)
  have CP := Lib.hid (packed_any w2 (w.heap.size + 1) (w.heap.size + 1) 9223372036854775807 _ hl2.pk)
  clear hl2 c0 c1
  go_wp2_with fail
  refine CP.out.mono ?_
  rintro e w3 ⟨v, rfl, ho3, hb3⟩
  have HB3 := Lib.hid (show Below w.heap.size w w3 from HBW.out.trans ((HB2.out.trans hb3).mono (by omega)))
  have HO3 := Lib.hid (show Own w3 w.heap.size 5 .u8 v (nums Y) from by
    obtain ⟨h4, h5 | ⟨g, cap, cur, e, hg, r⟩⟩ := ho3
    · exact ⟨h4, Or.inl h5⟩
    · exact ⟨h4, Or.inr ⟨g, cap, cur, e, by omega, r⟩⟩)
  have hbk := HRB.out w3 HB3.out
  have r0 := cell_at hbk 0
  have r1 := frozen_at hbk 0
  have hss : w3.setCell ⟨R, 0, none⟩ (.bool false) = w3 := set_same (by rw [r0]; rfl)
  clear ho3 hb3 hbk
  simp only [errP, Option.isNone_some, Bool.false_eq_true, if_false]
  go_wp2_with fail
  go_ret
  exact ⟨_, rfl, HO3.out, HB3.out⟩
end Go.Proofs.Ytlbkpgpkokgcbaa
namespace Go.Proofs.Ytlbkpgpkokgcbaa
open Go.RowKit

theorem catch_listR (w : World) :
    CallsD Try.prog 52 #[] .returning w fun e u' w' => e = .returned (.tuple #[]) ∧ u' = .returning ∧ w' = w := by
  refine callsD_of_wpS Try.func52 rfl fun c₀ cs hu => ?_
  apply wpS_region
  simp [wpOpsS, go_sem, recoverD, hu, Try.ntmps52]
  cases c₀
  simp_all [bodyPostS, results, Try.results52]

theorem Laid.belowR {w w1 w2 : World} {B g M : Nat} {st : Option (List UInt8)} (h : Laid w B g M st w1) (hB : B ≤ w.heap.size) (hb : Below w1.heap.size w1 w2) : Laid w B g M st w2 :=
  ⟨h.pk.below hb, h.bl.trans (hb.mono (Nat.le_trans hB h.bl.size)), h.fr.trans (Fr.of_below hb)⟩
theorem texts_one (M : Nat) (st : Option (List UInt8)) (x : List UInt8) : textsS M st [x] = textS M st x := rfl
theorem recs_getD (ls : List RecL) (k : Nat) (hk : k < ls.length) : (ls.map recC.enc).getD k [] = recC.enc (ls.getD k ([], [])) := by
  simp [List.getD, hk]

set_option maxHeartbeats 2000000 in
theorem listR_any (ls : List RecL) (p : Option Addr) (cap R : Nat) (w : World) (hp : Recs w p ls) (hR : w.heap[R]? = some (.cells #[.bool false] 4 (0, 0))) (hn : ls.length ≤ 1000) (hs : sumRec ls ≤ 100000) :
    Calls Try.prog 38 #[.slice p ls.length cap, .func (.func 39) #[] #[.pointer (some ⟨R, 0, none⟩)]] w fun e w' => ∃ v, e = .returned v ∧ Own w' w.heap.size 5 .u8 v (nums (recsL ls)) ∧ Below w.heap.size w w' := by
  have hRlt : R < w.heap.size := (Array.getElem?_eq_some_iff.1 hR).1
  have HRB := Lib.hid (show ∀ wr, Below w.heap.size w wr → wr.heap[R]? = some (.cells #[.bool false] 4 (0, 0)) from fun wr hb => by rw [hb.block R hRlt]; exact hR)
  have hfn : ∀ w : World, (binOp .eql 83 (.func (.func 39) #[] #[.pointer (some ⟨R, 0, none⟩)]) .nilFunc).run Try.prog w = .ok (.bool false) w := fun _ => by kernel_rfl
  have hn1 : decide ((1048576 : Int) < (ls.length : Int)) = false := by simp; omega
  have CN := Lib.hid (pcNew_any w 9223372036854775807)
  have HP := Lib.hid hp
  have HN := Lib.hid hn
  have HS := Lib.hid hs
  have hlm : (ls.map recC.enc).length = ls.length := List.length_map ..
  have HE := Lib.hid (show textsS 9223372036854775807 (numsS 9223372036854775807 (some []) [(ls.length : Int)]) (ls.map recC.enc) = some (recsL ls) from by
    have := listS_room (ls.map recC.enc) (by omega) hs
    unfold listS at this
    rw [hlm] at this
    exact this)
  clear hp hn hs hR
  obtain ⟨n, hln⟩ : ∃ n, ls.length = n := ⟨_, rfl⟩
  have HL := Lib.hid hln
  rw [hln] at hn1 HE ⊢
  have hnn : n ≤ 1000 := by rw [← hln]; exact HN.out
  clear hln hlm
  obtain ⟨st1, hst⟩ : ∃ s, numsS 9223372036854775807 (some []) [(n : Int)] = s := ⟨_, rfl⟩
  have HST := Lib.hid (show (st1.getD []).length ≤ 4 from by
    rw [← hst]
    exact numS_len 9223372036854775807 (some []) (n : Int))
  rw [hst] at HE
  go_enter_defers Try.func38, Try.ntmps38
  go_wp2_with fail
  refine CN.out.mono ?_
  rintro e w1 ⟨rfl, hpk1, hb1⟩
  have HB1 := Lib.hid hb1
  have HNB := Lib.hid (new_block w1 #[.int .i64 n] 3)
  have HB1a := Lib.hid (show Below w1.heap.size w1 (w1.alloc (.cells #[.int .i64 n] 3)) from (Below.refl _ _).alloc (Nat.le_refl _) _)
  have CNum := Lib.hid (numbers_any (w1.alloc (.cells #[.int .i64 n] 3)) w.heap.size w.heap.size 9223372036854775807 w1.heap.size (some []) [(n : Int)] (Nat.le_trans hb1.size HB1a.out.size) (hpk1.below HB1a.out) (by omega) (Or.inr (by simp)) HNB.out (by simp))
  rw [hst] at CNum
  clear hb1 hpk1 hst
  go_wp2_with fail
  refine CNum.out.mono ?_
  rintro e w2 ⟨rfl, hl2⟩
  have HL2 := Lib.hid hl2.pk
  have HB2 := Lib.hid (HB1.out.trans ((HB1a.out.mono HB1.out.size).trans hl2.bl))
  clear hl2
  go_wp2_with fail
  go_loopw [7, 25] (fun _ i wr => ∃ k : Nat, k ≤ n ∧ i = .int .i64 k ∧ Hid (Laid w2 w.heap.size w.heap.size 9223372036854775807 (textsS 9223372036854775807 st1 ((ls.map recC.enc).take k)) wr)) (fun _ i _ => n - (intOf i).toNat)
  case atStart => exact ⟨0, Nat.zero_le _, rfl, Lib.hid (Laid.refl HL2.out)⟩
  case round =>
    obtain ⟨k, hk, rfl, HLr⟩ := hrel
    by_cases hlt : k < n
    · have hltz : (k : Int) < (n : Int) := by omega
      have HBr := Lib.hid (HB2.out.trans HLr.out.bl)
      obtain ⟨b, o, rfl, hbl, r1, r2⟩ := rec_cell HP.out HBr.out (show k < ls.length by rw [HL.out]; exact hlt)
      obtain ⟨x, hx⟩ : ∃ x, ls.getD k ([], []) = x := ⟨_, rfl⟩
      have hgx : (ls.map recC.enc).getD k [] = recC.enc x := by rw [recs_getD ls k (by rw [HL.out]; exact hlt), hx]
      have hml : k < (ls.map recC.enc).length := by rw [List.length_map, HL.out]; exact hlt
      have hxm : 8 + x.1.length + x.2.length ≤ 100000 := by
        have h1 := rec_mem ls x (by rw [← hx]; simp only [List.getD, List.getElem?_eq_getElem (show k < ls.length by rw [HL.out]; exact hlt), Option.getD_some]; exact List.getElem_mem _)
        have h2 := HS.out
        omega
      rw [hx] at r1 r2
      have HX := Lib.hid (show textsS 9223372036854775807 (textsS 9223372036854775807 st1 ((ls.map recC.enc).take k)) [recC.enc x] = textsS 9223372036854775807 st1 ((ls.map recC.enc).take (k + 1)) by
        rw [textsS_snoc _ _ _ _ hml, hgx]; exact texts_one _ _ _)
      have HR := Lib.hid (show ((textsS 9223372036854775807 st1 ((ls.map recC.enc).take k)).getD []).length + sizeT [recC.enc x] ≤ 1000000 by
        have h1 := textsS_len 9223372036854775807 ((ls.map recC.enc).take k) st1
        have h2 := sizeT_take (ls.map recC.enc) k hml
        rw [hgx] at h2
        have h3 := sizeT_eq (ls.map recC.enc)
        have h4 := HN.out
        have h5 : sumL3 (ls.map recC.enc) ≤ 100000 := HS.out
        have h6 : sizeT [recC.enc x] = 4 + (recC.enc x).length + 0 := rfl
        have h7 := HST.out
        rw [List.length_map] at h3
        omega)
      obtain ⟨wa, hwa⟩ : ∃ wa, wr.alloc (.cells #[.string (strB x.1), .string (strB x.2)] 30) = wa := ⟨_, rfl⟩
      have hal : Below wr.heap.size wr wa := hwa ▸ (Below.refl _ _).alloc (Nat.le_refl _) _
      have haz : wa.heap.size = wr.heap.size + 1 := by rw [← hwa]; simp
      have y0 : wa.cell? ⟨wr.heap.size, 0, none⟩ = some (.string (strB x.1)) := by rw [← hwa]; exact cell_at (new_block wr _ _) 0
      have y1 : wa.cell? ⟨wr.heap.size, 1, none⟩ = some (.string (strB x.2)) := by rw [← hwa]; exact cell_at (new_block wr _ _) 1
      have C1 := Lib.hid (one_rec x R wa (HRB.out wa (HBr.out.trans (hal.mono HBr.out.size))) (by omega))
      have HLa := Lib.hid (HLr.out.belowR HB2.out.size hal)
      clear hx hgx hbl hml hxm hal
      obtain ⟨x1, x2⟩ := x
      obtain ⟨Y, hY⟩ : ∃ Y, recC.enc (x1, x2) = Y := ⟨_, rfl⟩
      rw [hY] at C1 HX HR
      simp only at r1 r2 C1 hwa y0 y1
      clear hY
      go_wp2_with fail
      refine C1.out.mono ?_
      rintro e w3 ⟨v3, rfl, ho3, hb3⟩
      obtain ⟨q3, d3, rfl, -, -, hr3⟩ := own_row ho3
      rw [nums_length]
      have hcv := run_string w3 Y q3 d3 hr3
      have HB3 := Lib.hid (hb3.trans (show Below wa.heap.size w3 (w3.alloc (.cells #[.string (strB Y)] 9)) from (Below.refl _ _).alloc hb3.size _))
      have HL3 := Lib.hid (HLa.out.belowR HB2.out.size HB3.out)
      have HNB3 := Lib.hid (new_block w3 #[.string (strB Y)] 9)
      have CT := Lib.hid (texts_any (w3.alloc (.cells #[.string (strB Y)] 9)) w.heap.size w.heap.size 9223372036854775807 w3.heap.size _ [Y] (Nat.le_trans HB2.out.size HL3.out.bl.size) HL3.out.pk (by omega) (Or.inr HR.out) HNB3.out (by simp))
      rw [HX.out] at CT
      obtain ⟨m, hm⟩ : ∃ m, Y.length = m := ⟨_, rfl⟩
      rw [hm] at hcv ⊢
      clear ho3 hr3 hb3 hm
      go_wp2_with fail
      refine CT.out.mono ?_
      rintro e w4 ⟨rfl, hl4⟩
      have HL4 := Lib.hid (HL3.out.trans hl4)
      clear hl4
      go_wp2_with fail
      go_roundw
      case rel => exact ⟨k + 1, by omega, by go_num, HL4⟩
      case measure => simp [intOf]; omega
    · obtain rfl : k = n := by omega
      have hltz : ¬ (k : Int) < (k : Int) := by omega
      have HLk := Lib.hid (show Laid w2 w.heap.size w.heap.size 9223372036854775807 (some (recsL ls)) wr by
        have := HLr.out
        rwa [← HL.out, show (ls.map recC.enc).take ls.length = ls.map recC.enc from List.take_of_length_le (by simp), HE.out] at this)
      have CP := Lib.hid (packed_any wr w.heap.size w.heap.size 9223372036854775807 _ HLk.out.pk)
      go_wp2_with fail
      refine CP.out.mono ?_
      rintro e w5 ⟨v, rfl, hown, hb5⟩
      have H5 := Lib.hid (And.intro hown (HB2.out.trans (HLk.out.bl.trans hb5)))
      clear hown hb5
      go_wp2_with fail
      refine leaves_cons (f := 52) (args := #[]) (by simp) (by simp [go_sem]) ?_
      refine (catch_listR _).mono ?_
      rintro e u' w'' ⟨rfl, rfl, rfl⟩
      simp [Leaves, settle, results, Try.results38, go_sem]
      exact H5.out
end Go.Proofs.Ytlbkpgpkokgcbaa
namespace Go.Proofs.Ytlbkpgpkokgcbaa
open Go.RowKit

theorem recsL_pos (ls : List RecL) : recsL ls ≠ [] := by
  intro h
  have := congrArg List.length h
  rw [recsL_len] at this
  simp at this
set_option maxHeartbeats 1000000 in
theorem packRecs_any (ls : List RecL) (p : Option Addr) (cap : Nat) (w : World) (hp : Recs w p ls) (hn : ls.length ≤ 1000) (hs : sumRec ls ≤ 100000) :
    Calls Try.prog 19 #[.slice p ls.length cap] w fun e w' => ∃ v, e = .returned (.tuple #[v, .int .i64 0]) ∧ Own w' w.heap.size 5 .u8 v (nums (recsL ls)) ∧ Below w.heap.size w w' := by
  obtain ⟨W0, hW0⟩ : ∃ W0, w.alloc (.cells #[.bool false] 4) = W0 := ⟨_, rfl⟩
  have hal : Below w.heap.size w W0 := hW0 ▸ (Below.refl _ _).alloc (Nat.le_refl _) _
  have hz0 : W0.heap.size = w.heap.size + 1 := by rw [← hW0]; simp
  have CL := Lib.hid (listR_any ls p cap w.heap.size W0 (hp.below hal) (hW0 ▸ new_block w _ _) hn hs)
  have HC := Lib.hid (show ∀ wr, Below (w.heap.size + 1) W0 wr → ∀ i, wr.cell? ⟨w.heap.size, i, none⟩ = _ from fun wr hb i => box_cells (hW0 ▸ hb) i)
  have HB := Lib.hid hal
  have HN := Lib.hid (recsL_pos ls)
  obtain ⟨Y, hY⟩ : ∃ Y, recsL ls = Y := ⟨_, rfl⟩
  rw [hY] at CL HN ⊢
  obtain ⟨n, hln⟩ : ∃ n, ls.length = n := ⟨_, rfl⟩
  rw [hln] at CL ⊢
  have hmf : ∀ (fn : Fn) (first cap : Array Value) (w : World), (Instr.makeFunc fn first cap).run Try.prog w = .ok (.func fn first cap) w := fun _ _ _ _ => rfl
  have hbk : W0.heap[w.heap.size]? = some (.cells #[.bool false] 4 (0, 0)) := hW0 ▸ new_block w _ _
  have k0 := cell_at hbk 0
  have k1 := frozen_at hbk 0
  have hss : W0.setCell ⟨w.heap.size, 0, none⟩ (.bool false) = W0 := set_same (by rw [k0]; rfl)
  clear hp hal hn hs hY hln hbk
  go_enter Try.func19, Try.ntmps19
  go_wp2_with fail
  refine CL.out.mono ?_
  rintro e w1 ⟨v, rfl, ho, hb⟩
  obtain ⟨q, d, rfl, -, -, hrow⟩ := own_row ho
  obtain ⟨b, o, rfl, -⟩ := row_some hrow HN.out
  have r0 := HC.out w1 (hz0 ▸ hb) 0
  have H1 := Lib.hid (show Own w1 w.heap.size 5 .u8 (.slice (some ⟨b, o, none⟩) (nums Y).length d) (nums Y) ∧ Below w.heap.size w w1 from ⟨by
    obtain ⟨h4, h5 | ⟨g, cap, cur, e, hg, r⟩⟩ := ho
    · exact ⟨h4, Or.inl h5⟩
    · exact ⟨h4, Or.inr ⟨g, cap, cur, e, by omega, r⟩⟩, HB.out.trans (hb.mono (by omega))⟩)
  obtain ⟨m, hm⟩ : ∃ m, (nums Y).length = m := ⟨_, rfl⟩
  rw [hm] at H1 ⊢
  clear ho hb hrow hm hW0 hz0
  have HF := Lib.hid (show ∃ v, (Ending.returned (.tuple #[.slice (some ⟨b, o, none⟩) m d, .int .i64 0]) : Ending) = .returned (.tuple #[v, .int .i64 0]) ∧ Own w1 w.heap.size 5 .u8 v (nums Y) ∧ Below w.heap.size w w1 from ⟨_, rfl, H1.out⟩)
  have hnil : ∀ w : World, (binOp .eql 36 (.slice (some ⟨b, o, none⟩) m d) (.slice none 0 0)).run Try.prog w = .ok (.bool false) w := fun _ => by kernel_rfl
  go_wp2_with fail
  go_ret2
  exact HF.out

/-- the cells of a deed in a block of its own. -/
theorem own_le {w : World} {B B' : Nat} {e : TypeId} {k : IntKind} {v : Value} {xs : List Int} (h : Own w B e k v xs) (hB : B' ≤ B) : Own w B' e k v xs := by
  obtain ⟨h4, h5 | ⟨g, cap, cur, e, hg, r⟩⟩ := h
  · exact ⟨h4, Or.inl h5⟩
  · exact ⟨h4, Or.inr ⟨g, cap, cur, e, by omega, r⟩⟩
theorem errP_some (b : List UInt8) : errP (some b) = 0 := rfl
theorem errP_none : errP none = 1 := rfl
theorem pack_bound (x : DeedL) (a : List UInt8) (ha : a.length ≤ 32768) (hn : x.ls.length ≤ 1000) (hs : sumRec x.ls ≤ 100000) (hf : x.f.length ≤ 100000) (ht : x.t.length ≤ 100000) :
    ((numsS 9223372036854775807 (some []) [x.d, x.e, x.ep]).getD []).length + sizeT [x.f, x.t, a, recsL x.ls] ≤ 1000000 := by
  have h1 := numsS_len 9223372036854775807 [x.d, x.e, x.ep] (some [])
  have h2 : sizeT [x.f, x.t, a, recsL x.ls] = 4 + x.f.length + (4 + x.t.length + (4 + a.length + (4 + (recsL x.ls).length + 0))) := rfl
  have h3 := recsL_len x.ls
  simp only [Option.getD_some, List.length_nil, List.length_cons] at h1
  omega

set_option maxHeartbeats 4000000 in
theorem pack_any (x : DeedL) (p : Option Addr) (cap : Nat) (w : World) (hp : Recs w p x.ls) (hn : x.ls.length ≤ 1000) (hs : sumRec x.ls ≤ 100000) (hf : x.f.length ≤ 100000) (ht : x.t.length ≤ 100000) :
    Calls Try.prog 11 #[jdV x p cap] w (RetPk w.heap.size (packS x) w) := by
  have HF := Lib.hid (show ∀ a e w', askS x.a = some a → RetPk w.heap.size (packA x a) w e w' → RetPk w.heap.size (packS x) w e w' from fun a e w' h1 h2 => by
    unfold packS; rw [h1]; exact h2)
  have HF0 := Lib.hid (show ∀ w', askS x.a = none → Below w.heap.size w w' → RetPk w.heap.size (packS x) w (.returned (.tuple #[.slice none 0 0, .int .i64 1])) w' from fun w' h1 hb => by
    unfold packS; rw [h1]; exact ⟨_, rfl, ⟨rfl, Or.inl ⟨rfl, rfl⟩⟩, hb⟩)
  have HBD := Lib.hid (fun a ha => pack_bound x a ha hn hs hf ht)
  obtain ⟨W0, hW0⟩ : ∃ W0, w.alloc (.cells (jdCells x p cap) 35) = W0 := ⟨_, rfl⟩
  have hz0 : W0.heap.size = w.heap.size + 1 := by rw [← hW0]; simp
  have HC := Lib.hid (show ∀ wr, Below (w.heap.size + 1) W0 wr → ∀ i, wr.cell? ⟨w.heap.size, i, none⟩ = _ from fun wr hb i => box_cells (hW0 ▸ hb) i)
  have HBW := Lib.hid (show Below w.heap.size w W0 by rw [← hW0]; exact (Below.refl _ _).alloc (Nat.le_refl _) _)
  have HPK := Lib.hid (show ∀ w1, Below w.heap.size w w1 → Calls Try.prog 19 #[.slice p x.ls.length cap] w1 _ from fun w1 hb => packRecs_any x.ls p cap w1 (hp.below hb) hn hs)
  have CA := Lib.hid (ask_any x.a W0)
  rw [hz0] at CA
  clear hp hn hs hf ht
  obtain ⟨d, a, er, f, t, ep, ls⟩ := x
  obtain ⟨a1, a2, a3, a4, a5, a6, a7, a8⟩ := a
  unfold jdV
  unfold askV at CA
  unfold jdCells at hW0 HC
  simp only at hW0 HC HPK CA HF HF0 HBD ⊢
  obtain ⟨n, hln⟩ : ∃ n, ls.length = n := ⟨_, rfl⟩
  rw [hln] at HPK HC hW0 ⊢
  clear hln
  obtain ⟨S, hS⟩ : ∃ S, askS ⟨a1, a2, a3, a4, a5, a6, a7, a8⟩ = S := ⟨_, rfl⟩
  rw [hS] at CA HF HF0
  have HAL := Lib.hid (fun b (h : S = some b) => askS_len (hS.trans h))
  generalize packS ⟨d, ⟨a1, a2, a3, a4, a5, a6, a7, a8⟩, er, f, t, ep, ls⟩ = R at HF HF0 ⊢
  clear hS
  have c0 := HC.out W0 (Below.refl _ _) 0
  have c1 := HC.out W0 (Below.refl _ _) 1
  have c2 := HC.out W0 (Below.refl _ _) 2
  have c3 := HC.out W0 (Below.refl _ _) 3
  have c4 := HC.out W0 (Below.refl _ _) 4
  have c5 := HC.out W0 (Below.refl _ _) 5
  have c6 := HC.out W0 (Below.refl _ _) 6
  have c7 := HC.out W0 (Below.refl _ _) 7
  have c8 := HC.out W0 (Below.refl _ _) 8
  go_enter Try.func11, Try.ntmps11
  go_wp2_with fail
  clear hW0
  refine CA.out.mono ?_
  rintro e w1 ⟨v1, rfl, ho1, hb1⟩
  have HB1 := Lib.hid hb1
  cases S with
  | none =>
    rw [errP_none]
    have HE := Lib.hid (HF0.out w1 rfl (HBW.out.trans (hb1.mono (by omega))))
    clear ho1 hb1 c0 c1 c2 c3 c4 c5 c6 c7 c8
    go_wp2_with fail
    go_ret2
    exact HE.out
  | some A =>
    rw [errP_some]
    simp only [Option.getD_some] at ho1
    have hA := HAL.out A rfl
    have c13 := HC.out w1 hb1 13
    have CP := Lib.hid (HPK.out w1 (HBW.out.trans (hb1.mono (by omega))))
    have HO1 := Lib.hid (And.intro ho1 hA)
    clear ho1 hb1 c0 c1 c2 c3 c4 c5 c6 c7 c8 hA
    go_wp2_with fail
    refine CP.out.mono ?_
    rintro e w2 ⟨v2, rfl, ho2, hb2⟩
    have HB2 := Lib.hid (HB1.out.trans (hb2.mono (by have := HB1.out.size; omega)))
    have HO2 := Lib.hid ho2
    have HO1a := Lib.hid (below_own HO1.out.1 hb2)
    have CJ := Lib.hid (jnew_any w2)
    clear ho2 hb2 c13
    go_wp2_with fail
    refine CJ.out.mono ?_
    rintro e w3 ⟨rfl, hp3, hb3⟩
    have HB3 := Lib.hid (HB2.out.trans (hb3.mono (by have := HB2.out.size; omega)))
    have e0 := HC.out w3 HB3.out 0
    have e9 := HC.out w3 HB3.out 9
    have e12 := HC.out w3 HB3.out 12
    obtain ⟨q1, d1, rfl, -, -, hr1⟩ := own_row HO1a.out
    obtain ⟨q2, d2, rfl, -, -, hr2⟩ := own_row HO2.out
    have HR := Lib.hid (And.intro hr1 hr2)
    have hal3 : Below w3.heap.size w3 (w3.alloc (.cells #[.int .i64 d, .int .i64 er, .int .i64 ep] 3)) := (Below.refl _ _).alloc (Nat.le_refl _) _
    have CN := Lib.hid (numbers_any (w3.alloc (.cells #[.int .i64 d, .int .i64 er, .int .i64 ep] 3)) w2.heap.size w2.heap.size 9223372036854775807 w3.heap.size (some []) [d, er, ep] (by simp; have := hb3.size; omega) (hp3.below hal3) (by omega) (Or.inr (by simp)) (new_block _ _ _) (by simp) : Calls Try.prog 21 #[.pointer (some ⟨w2.heap.size, 0, none⟩), .slice (some ⟨w3.heap.size, 0, none⟩) 3 3] _ _)
    have HB3a := Lib.hid (hb3.trans (hal3.mono hb3.size))
    obtain ⟨S1, hS1⟩ : ∃ S1, numsS 9223372036854775807 (some []) [d, er, ep] = S1 := ⟨_, rfl⟩
    rw [hS1] at CN
    have HBDA := Lib.hid (HBD.out A HO1.out.2)
    have HFA := Lib.hid (HF.out A)
    unfold packA at HFA
    simp only at HBDA HFA
    rw [hS1] at HBDA HFA
    rw [nums_length, nums_length]
    have v1 := run_string w2 A q1 d1 hr1
    obtain ⟨YL, hYL⟩ : ∃ Y, recsL ls = Y := ⟨_, rfl⟩
    rw [hYL] at HR HBDA HFA hr2 ⊢
    clear hp3 hb3 hal3 hS1 hr1 hr2
    go_wp2_with fail
    refine CN.out.mono ?_
    rintro e w4 ⟨rfl, hl4⟩
    have HB4 := Lib.hid (HB3a.out.trans hl4.bl)
    have HP4 := Lib.hid hl4.pk
    have f10 := HC.out w4 (HB2.out.trans (HB4.out.mono (by have := HB2.out.size; omega))) 10
    have f11 := HC.out w4 (HB2.out.trans (HB4.out.mono (by have := HB2.out.size; omega))) 11
    have v1 := run_string w4 A q1 d1 (HR.out.1.below HB4.out)
    have v2 := run_string w4 YL q2 d2 (HR.out.2.below HB4.out)
    have hal4 : Below w4.heap.size w4 (w4.alloc (.cells #[.string (strB f), .string (strB t), .string (strB A), .string (strB YL)] 9)) := (Below.refl _ _).alloc (Nat.le_refl _) _
    have CT := Lib.hid (texts_any (w4.alloc (.cells #[.string (strB f), .string (strB t), .string (strB A), .string (strB YL)] 9)) w2.heap.size w2.heap.size 9223372036854775807 w4.heap.size S1 [f, t, A, YL] (by simp; have := HB4.out.size; omega) (hl4.pk.below hal4) (by omega) (Or.inr HBDA.out) (new_block _ _ _) (by simp) : Calls Try.prog 22 #[.pointer (some ⟨w2.heap.size, 0, none⟩), .slice (some ⟨w4.heap.size, 0, none⟩) 4 4] _ _)
    have HB4a := Lib.hid (HB4.out.trans (hal4.mono HB4.out.size))
    obtain ⟨la, hla⟩ : ∃ n, A.length = n := ⟨_, rfl⟩
    obtain ⟨ly, hly⟩ : ∃ n, YL.length = n := ⟨_, rfl⟩
    rw [hla] at v1 ⊢
    rw [hly] at v2 ⊢
    clear hl4 hal4 hla hly e0 e9 e12
    go_wp2_with fail
    refine CT.out.mono ?_
    rintro e w5 ⟨rfl, hl5⟩
    have HB5 := Lib.hid (HB4a.out.trans hl5.bl)
    have CK := Lib.hid (packed_any w5 w2.heap.size w2.heap.size 9223372036854775807 _ hl5.pk)
    clear hl5 f10 f11 v1 v2
    go_wp2_with fail
    refine CK.out.mono ?_
    intro e w6 h6
    have HR6 := Lib.hid (HFA.out _ _ trivial (h6.of (B' := w.heap.size) (w0 := w) (by have := HB2.out.size; omega) ((HBW.out.trans (HB2.out.mono (by omega))).trans (HB5.out.mono (by have := HB2.out.size; omega)))))
    obtain ⟨v6, he6, -, -⟩ := h6
    subst he6
    go_wp2_with fail
    go_ret2
    exact HR6.out
end Go.Proofs.Ytlbkpgpkokgcbaa
namespace Go.Proofs.Ytlbkpgpkokgcbaa
open Go.RowKit

theorem jnOr64 (x y : Nat) (hx : x < 16777216) (hy : y ≤ 255) : bits .or .u64 ((x : Int) * 256) y = ((x * 256 + y : Nat) : Int) := by
  rw [bits_join .u64 64 (by decide) Go.wraps_u64 8 ((x : Int) * 256) y (by omega) (by omega) (by omega) (by omega) (by omega) (by omega)]
  omega

set_option maxHeartbeats 1000000 in
theorem length_any (l : List UInt8) (n : Nat) (hn : l.length = n) (h4 : 4 ≤ n) (p : Option Addr) (cap : Nat) (w : World) (hp : Row w .u8 p (nums l)) (hcap : n ≤ cap) :
    Calls Try.prog 42 #[.slice p n cap] w fun e w' => e = .returned (.int .u64 (numL (l.take 4) : Nat)) ∧ w = w' := by
  obtain ⟨b, o, rfl, hbl⟩ := row_some hp (by intro h; rw [h] at hn; simp at hn; omega)
  have HP := Lib.hid hp
  have HN := Lib.hid (And.intro hn h4)
  have h4c : (4 : Int) ≤ (cap : Int) := by omega
  clear hp hn h4
  go_enter Try.func42, Try.ntmps42
  go_wp2_with fail
  go_loop [3, 5, 9] (fun x _ i => ∃ k : Nat, k ≤ 4 ∧ i = .int .i64 k ∧ x = .int .u64 (numL (l.take k) : Nat)) (fun _ _ i => 4 - (intOf i).toNat)
  case atStart => exact ⟨0, Nat.zero_le _, rfl, rfl⟩
  case round =>
    obtain ⟨k, hk, rfl, rfl⟩ := hrel
    obtain ⟨A, hA⟩ : ∃ A, numL (l.take k) = A := ⟨_, rfl⟩
    rw [hA]
    have HA := Lib.hid hA
    clear hA
    by_cases hlt : k < 4
    · have hA3 : A < 16777216 := by rw [← HA.out]; exact pcNumL_lt3 _ (by rw [List.length_take]; omega)
      obtain ⟨b', o', hbe, _, hcell⟩ := byte_cell HP.out (Below.refl _ _) (show k < l.length by have := HN.out; omega)
      injection hbe with hbe
      injection hbe with hb1 hb2 _
      subst hb1 hb2
      obtain ⟨x, hx⟩ : ∃ x, l.getD k 0 = x := ⟨_, rfl⟩
      rw [hx] at hcell
      have HX := Lib.hid hx
      clear hx
      have hx8 : (x.toNat : Int) ≤ 255 := by have := u8_lt x; omega
      have ho := jnOr64 A x.toNat hA3 (u8_lt x)
      have hA1 : (A : Int) < 16777216 := by omega
      have hltz : (k : Int) < 4 := by omega
      clear hA3
      go_wp2_with fail
      go_round
      case rel =>
        have hs : numL (l.take (k + 1)) = A * 256 + x.toNat := by
          rw [take_snoc8 l k (by have := HN.out; omega), numL_snoc, HX.out, HA.out]
        exact ⟨k + 1, by omega, by go_num, by rw [hs]; simp⟩
      case measure => simp [intOf]; omega
    · obtain rfl : k = 4 := by omega
      have HF := Lib.hid (show ∀ w : World, (Ending.returned (.int .u64 A) : Ending) = .returned (.int .u64 (numL (l.take 4) : Nat)) ∧ w = w from fun w => ⟨by rw [HA.out], rfl⟩)
      go_wp2_with fail
      go_ret
      exact ⟨(HF.out w).1, rfl⟩

theorem shortT_step (m : Nat) (l : List UInt8) (h4 : 4 ≤ l.length) : shortT (m + 1) l = if (l.drop 4).length < numL (l.take 4) then true else shortT m ((l.drop 4).drop (numL (l.take 4))) := by
  show (if l.length < 4 then true else _) = _
  rw [if_neg (by omega)]

set_option maxHeartbeats 4000000 in
set_option maxRecDepth 100000 in
theorem short_any (l : List UInt8) (n : Nat) (hn : l.length = n) (hl : n ≤ 1000000) (p : Option Addr) (cap : Nat) (w : World) (hp : Row w .u8 p (nums l)) (hcap : n ≤ cap) :
    Calls Try.prog 24 #[.slice p n cap] w fun e w' => e = .returned (.bool (shortB l)) ∧ w = w' := by
  by_cases h12 : n < 12
  · have hE : shortB l = true := by unfold shortB; rw [if_pos (by omega)]
    rw [hE]
    have h12z : (n : Int) < 12 := by omega
    clear hp hn hE
    go_enter Try.func24, Try.ntmps24
    go_wp2_with fail
    go_ret
    exact ⟨rfl, rfl⟩
  · obtain ⟨b, o, rfl, hbl⟩ := row_some hp (by intro h; rw [h] at hn; simp at hn; omega)
    have h12z : ¬ (n : Int) < 12 := by omega
    have h12c : (12 : Int) ≤ (cap : Int) := by omega
    have h12n : (12 : Int) ≤ (n : Int) := by omega
    have hnc : (n : Int) ≤ (cap : Int) := by omega
    have hE : shortB l = shortT 4 (l.drop 12) := by unfold shortB; rw [if_neg (by omega)]
    rw [hE]
    obtain ⟨SB, hSB⟩ : ∃ SB, shortT 4 (l.drop 12) = SB := ⟨_, rfl⟩
    rw [hSB]
    have HS := Lib.hid hSB
    have HP := Lib.hid hp
    have HN := Lib.hid (And.intro hn hl)
    clear hp hn hE hSB hl
    have hst : ∃ o2, ((cap = 12 ∧ o2 = o) ∨ (cap ≠ 12 ∧ o2 = o + 12)) ∧ Row w .u8 (some ⟨b, o2, none⟩) (nums (l.drop 12)) := by
      by_cases hc : cap = 12
      · exact ⟨o, Or.inl ⟨hc, rfl⟩, Or.inl (List.eq_nil_of_length_eq_zero (by rw [nums_length, List.length_drop]; have := HN.out; omega))⟩
      · exact ⟨o + 12, Or.inr ⟨hc, rfl⟩, row_drop HP.out 12⟩
    obtain ⟨o2, hcs, hr2⟩ := hst
    have HR2 := Lib.hid (show ∀ (v : Value) (d : Nat), v = .slice (some ⟨b, o2, none⟩) (n - 12) d → n - 12 ≤ d → ∃ q r d, v = .slice q r.length d ∧ Hid (Row w .u8 q (nums r) ∧ r.length ≤ d ∧ (q = none → d = 0) ∧ r.length ≤ 1000000 ∧ shortT (4 - 0) r = SB) from fun v d hv hd => ⟨_, l.drop 12, d, by rw [hv, List.length_drop, HN.out.1], Lib.hid ⟨hr2, by rw [List.length_drop, HN.out.1]; exact hd, (fun h => nomatch h), by rw [List.length_drop]; have := HN.out; omega, HS.out⟩⟩)
    clear hr2
    rcases hcs with ⟨rfl, rfl⟩ | ⟨hc, rfl⟩
    · obtain rfl : n = 12 := by omega
      go_enter Try.func24, Try.ntmps24
      have hSB : SB = true := by
        have h1 := HS.out
        rw [List.drop_eq_nil_of_le (by rw [HN.out.1]; exact Nat.le_refl _)] at h1
        exact h1.symm
      subst hSB
      go_wp2_with fail
      go_loopw [0, 3, 9] (fun v _ i wr => i = .int .i64 0 ∧ wr = w ∧ v = .slice (some ⟨b, o2, none⟩) 0 0) (fun _ _ _ _ => 0)
      case atStart => exact ⟨rfl, rfl, rfl⟩
      case round =>
        obtain ⟨rfl, rfl, rfl⟩ := hrel
        go_wp2_with fail
        go_ret
        exact ⟨rfl, rfl⟩
    · have hcz : ¬ (cap : Int) = 12 := by omega
      go_enter Try.func24, Try.ntmps24
      go_wp2_with fail
      go_loopw [0, 3, 9] (fun v _ i wr => ∃ k : Nat, k ≤ 4 ∧ i = .int .i64 k ∧ wr = w ∧ ∃ q r d, v = .slice q r.length d ∧ Hid (Row w .u8 q (nums r) ∧ r.length ≤ d ∧ (q = none → d = 0) ∧ r.length ≤ 1000000 ∧ shortT (4 - k) r = SB)) (fun _ _ i _ => 4 - (intOf i).toNat)
      case atStart => exact ⟨0, Nat.zero_le _, rfl, rfl, HR2.out _ _ rfl (by omega)⟩
      case round =>
        obtain ⟨k, hk, rfl, rfl, q, r, d, rfl, HR⟩ := hrel
        obtain ⟨m, hm⟩ : ∃ m, r.length = m := ⟨_, rfl⟩
        rw [hm]
        have HM := Lib.hid hm
        clear hm
        by_cases hlt : k < 4
        · have hltz : (k : Int) < 4 := by omega
          obtain ⟨j, hj⟩ : ∃ j, 4 - k = j + 1 := ⟨3 - k, by omega⟩
          by_cases hm4 : m < 4
          · have hmz : (m : Int) < 4 := by omega
            have hSB : SB = true := by
              have := HR.out.2.2.2.2
              rw [hj] at this
              rw [← this]
              show (if r.length < 4 then true else _) = true
              rw [if_pos (by rw [HM.out]; exact hm4)]
            subst hSB
            go_wp2_with fail
            go_ret
            exact ⟨rfl, rfl⟩
          · have hmz : ¬ (m : Int) < 4 := by omega
            have hmz2 : (4 : Int) ≤ (m : Int) := by omega
            have hmd : (m : Int) ≤ (d : Int) := by have := HR.out.2.1; have := HM.out; omega
            have hmb : (m : Int) ≤ 1000000 := by have := HR.out.2.2.2.1; have := HM.out; omega
            have hstep := HR.out.2.2.2.2
            rw [hj, shortT_step j r (by rw [HM.out]; omega)] at hstep
            have CL := Lib.hid (length_any r m HM.out (by omega) q d wr HR.out.1 (by omega))
            obtain ⟨b, o, rfl, hbl⟩ := row_some HR.out.1 (by intro h; have := HM.out; rw [h] at this; simp at this; omega)
            obtain ⟨N, hN⟩ : ∃ N, numL (r.take 4) = N := ⟨_, rfl⟩
            have hN32 : (N : Int) < 4294967296 := by
              have := numL_lt (r.take 4) (by rw [List.length_take]; omega)
              omega
            rw [hN] at CL hstep
            rw [List.length_drop, HM.out] at hstep
            have HST := Lib.hid hstep
            clear hstep hbl hN
            go_wp2_with fail
            refine CL.out.mono ?_
            rintro e w' ⟨rfl, rfl⟩
            clear CL
            by_cases hd : d = 4
            · subst hd
              obtain rfl : m = 4 := by omega
              have hst := HST.out
              by_cases hN0 : N = 0
              · subst hN0
                have hd4 : r.drop 4 = [] := List.drop_eq_nil_of_le (by rw [HM.out]; exact Nat.le_refl _)
                rw [if_neg (by omega), hd4, List.drop_nil] at hst
                have HT := Lib.hid hst
                clear hst HST
                go_wp2_with fail
                go_roundw
                case rel => exact ⟨k + 1, by omega, by go_num, (by trivial), some ⟨b, o, none⟩, [], 0, rfl, Lib.hid ⟨Or.inl rfl, Nat.le_refl _, (fun h => nomatch h), by simp, by rw [show 4 - (k + 1) = j by omega]; exact HT.out⟩⟩
                case measure => simp [intOf]; omega
              · have hNz : (0 : Int) < (N : Int) := by omega
                have hSB : SB = true := by
                  rw [if_pos (by omega)] at hst
                  exact hst.symm
                subst hSB
                clear hst HST hNz
                obtain ⟨N', rfl⟩ : ∃ N', N = N' + 1 := ⟨N - 1, by omega⟩
                clear hN0
                go_wp2_with fail
                go_ret
                exact ⟨rfl, rfl⟩
            · have hdz : ¬ (d : Int) = 4 := by omega
              by_cases hNm : m - 4 < N
              · have hNz : (m : Int) - 4 < (N : Int) := by omega
                have hSB : SB = true := by
                  have := HST.out
                  rw [if_pos hNm] at this
                  exact this.symm
                subst hSB
                go_wp2_with fail
                go_ret
                exact ⟨rfl, rfl⟩
              · have hNz : ¬ (m : Int) - 4 < (N : Int) := by omega
                have HT := Lib.hid (show shortT j ((r.drop 4).drop N) = SB from by
                  have := HST.out
                  rwa [if_neg hNm] at this)
                have HLN := Lib.hid (show ((r.drop 4).drop N).length = m - 4 - N by rw [List.length_drop, List.length_drop, HM.out])
                have HBN := Lib.hid (And.intro hNm hmd)
                clear HST
                go_wp2_with fail
                go_roundw
                case rel =>
                  by_cases hpd : d - 4 = N
                  · have hlz : ((r.drop 4).drop N).length = 0 := by have := HLN.out; have := HBN.out; omega
                    have hnil := List.eq_nil_of_length_eq_zero hlz
                    exact ⟨k + 1, by omega, by go_num, (by trivial), some ⟨b, o + 4, none⟩, (r.drop 4).drop N, d - 4 - N, by rw [if_pos hpd, HLN.out], Lib.hid ⟨Or.inl (by rw [hnil]; rfl), by have := HLN.out; have := HBN.out; omega, (fun h => nomatch h), by rw [hlz]; omega, by rw [show 4 - (k + 1) = j by omega]; exact HT.out⟩⟩
                  · exact ⟨k + 1, by omega, by go_num, (by trivial), some ⟨b, o + 4 + N, none⟩, (r.drop 4).drop N, d - 4 - N, by rw [if_neg hpd, HLN.out], Lib.hid ⟨row_drop (row_drop HR.out.1 4) N, by have := HLN.out; have := HBN.out; omega, (fun h => nomatch h), by rw [HLN.out]; have := HR.out.2.2.2.1; have := HM.out; omega, by rw [show 4 - (k + 1) = j by omega]; exact HT.out⟩⟩
                case measure => simp [intOf]; omega
        · obtain rfl : k = 4 := by omega
          have hSB : SB = false := HR.out.2.2.2.2.symm
          subst hSB
          go_wp2_with fail
          go_ret
          exact ⟨rfl, rfl⟩
end Go.Proofs.Ytlbkpgpkokgcbaa
namespace Go.Proofs.Ytlbkpgpkokgcbaa
open Go.RowKit

theorem rd_text_at (s r : List UInt8) (h : s.length ≤ 268435455) : rdV textC [] (.ok (textC.enc s ++ r)) = s ∧ rdR textC (.ok (textC.enc s ++ r)) = .ok r := by
  have hd : textC.dec (textC.enc s ++ r) = .ok (s, r) := textC.rt s r (show s.length < 268435456 by omega)
  exact ⟨rdV_ok hd, rdR_ok hd⟩

set_option maxHeartbeats 2000000 in
theorem readRec_ok (x : RecL) (h1 : x.1.length ≤ 268435455) (h2 : x.2.length ≤ 268435455) (l : List UInt8) (hl : l = recC.enc x) (n : Nat) (hn : l.length = n) (p : Option Addr) (cap : Nat) (w : World) (hp : Row w .u8 p (nums l)) :
    Calls Try.prog 31 #[.slice p n cap] w fun e w' => e = .returned (.tuple #[.agg #[.string (strB x.1), .string (strB x.2)], .int .i64 0]) ∧ Below w.heap.size w w' := by
  obtain ⟨W0, hW0⟩ : ∃ W0, w.alloc (.cells #[.string ⟨#[]⟩, .string ⟨#[]⟩] 30) = W0 := ⟨_, rfl⟩
  have hz0 : W0.heap.size = w.heap.size + 1 := by rw [← hW0]; simp
  have hal : Below w.heap.size w W0 := hW0 ▸ (Below.refl _ _).alloc (Nat.le_refl _) _
  have hbk : W0.heap[w.heap.size]? = some (.cells #[.string ⟨#[]⟩, .string ⟨#[]⟩] 30 (0, 0)) := hW0 ▸ new_block w _ _
  have hcn := rnew_any W0 l p cap (hp.below hal)
  rw [hz0, hn] at hcn
  have CN := Lib.hid hcn
  have e1 := rd_text_at x.1 (textC.enc x.2) h1
  have e2 := rd_text_at x.2 [] h2
  rw [List.append_nil] at e2
  have CT1 := Lib.hid (show ∀ w1, RdAt w1 (w.heap.size + 1) (.ok l) → Calls Try.prog 27 #[.pointer (some ⟨w.heap.size + 1, 0, none⟩)] w1 fun e w' => e = .returned (.string (strB x.1)) ∧ RdAt w' (w.heap.size + 1) (.ok (textC.enc x.2)) ∧ Chg (w.heap.size + 1) w1 w' from fun w1 h => by
    have := text_any w1 (w.heap.size + 1) (.ok l) h
    rw [hl, show recC.enc x = textC.enc x.1 ++ textC.enc x.2 from rfl, e1.1, e1.2] at this
    exact this)
  have CT2 := Lib.hid (show ∀ w1, RdAt w1 (w.heap.size + 1) (.ok (textC.enc x.2)) → Calls Try.prog 27 #[.pointer (some ⟨w.heap.size + 1, 0, none⟩)] w1 fun e w' => e = .returned (.string (strB x.2)) ∧ RdAt w' (w.heap.size + 1) (.ok []) ∧ Chg (w.heap.size + 1) w1 w' from fun w1 h => by
    have := text_any w1 (w.heap.size + 1) (.ok (textC.enc x.2)) h
    rw [e2.1, e2.2] at this
    exact this)
  have CE := Lib.hid (show ∀ w1, RdAt w1 (w.heap.size + 1) (.ok []) → Calls Try.prog 28 #[.pointer (some ⟨w.heap.size + 1, 0, none⟩)] w1 fun e w' => e = .returned (.int .i64 0) ∧ w1 = w' from fun w1 h => end_any w1 (w.heap.size + 1) (.ok []) h)
  have HW := Lib.hid (And.intro hz0 (And.intro hal hbk))
  obtain ⟨s1, hs1⟩ : ∃ s, strB x.1 = s := ⟨_, rfl⟩
  obtain ⟨s2, hs2⟩ : ∃ s, strB x.2 = s := ⟨_, rfl⟩
  rw [hs1] at CT1 ⊢
  rw [hs2] at CT2 ⊢
  clear hp hn hl h1 h2 hcn e1 e2 hz0 hal hbk hs1 hs2
  go_enter Try.func31, Try.ntmps31
  go_wp2_with fail
  clear hW0
  refine CN.out.mono ?_
  rintro e w1 ⟨rfl, hr1, hb1⟩
  have HB1 := Lib.hid hb1
  have C1 := Lib.hid (CT1.out w1 hr1)
  clear hr1 hb1
  go_wp2_with fail
  refine C1.out.mono ?_
  rintro e w2 ⟨rfl, hr2, hc2⟩
  have HC2 := Lib.hid hc2
  have C2 := Lib.hid (CT2.out w2 hr2)
  clear hr2 hc2
  go_wp2_with fail
  refine C2.out.mono ?_
  rintro e w3 ⟨rfl, hr3, hc3⟩
  have HC3 := Lib.hid (HC2.out.trans hc3)
  obtain ⟨w4, hw4⟩ : ∃ w4, w3.alloc (.cells #[.string s1, .string s2] 30) = w4 := ⟨_, rfl⟩
  have hb4 : Below w3.heap.size w3 w4 := hw4 ▸ (Below.refl _ _).alloc (Nat.le_refl _) _
  have k0 : w4.cell? ⟨w3.heap.size, 0, none⟩ = some (.string s1) := by rw [← hw4]; exact cell_at (new_block w3 _ _) 0
  have k1 : w4.cell? ⟨w3.heap.size, 1, none⟩ = some (.string s2) := by rw [← hw4]; exact cell_at (new_block w3 _ _) 1
  have C3 := Lib.hid (CE.out w4 (hr3.below hb4))
  have hbw : Below (w.heap.size + 1) W0 w4 := HB1.out.trans ((HC3.out.below (Nat.le_refl _) (by have := HC3.out.size; have := HB1.out.size; have := HW.out.1; omega)).trans (hb4.mono (by have := HC3.out.size; have := HB1.out.size; have := HW.out.1; omega)))
  have hbk4 : w4.heap[w.heap.size]? = some (.cells #[.string ⟨#[]⟩, .string ⟨#[]⟩] 30 (0, 0)) := by rw [hbw.block _ (by omega)]; exact HW.out.2.2
  have z0 := cell_at hbk4 0
  have z1 := cell_at hbk4 1
  have f0 := frozen_at hbk4 0
  have f1 := frozen_at hbk4 1
  have hlt : w.heap.size < w3.heap.size := by have := HC3.out.size; have := HB1.out.size; have := HW.out.1; omega
  have HBX := Lib.hid (show Below w.heap.size w w4 from HW.out.2.1.trans (hbw.mono (by omega)))
  clear hr3 hc3 hb4 hbw hbk4
  go_wp2_with fail
  clear hw4
  refine C3.out.mono ?_
  rintro e w5 ⟨rfl, rfl⟩
  go_wp2_with fail
  refine bodyPost_ret (v := .tuple #[.agg #[.string s1, .string s2], .int .i64 0]) (by simp [results, Try.results31, go_sem, z0, z1]) rfl ⟨rfl, (HBX.out.setCell (p := ⟨w.heap.size, 0, none⟩) (Nat.le_refl _) _).setCell (p := ⟨w.heap.size, 1, none⟩) (Nat.le_refl _) _⟩
end Go.Proofs.Ytlbkpgpkokgcbaa
namespace Go.Proofs.Ytlbkpgpkokgcbaa
open Go.RowKit

theorem catch_readR (p q : Addr) (w : World) :
    CallsD Try.prog 45 #[.pointer (some p), .pointer (some q)] .returning w fun e u' w' => e = .returned (.tuple #[]) ∧ u' = .returning ∧ w' = w := by
  refine callsD_of_wpS Try.func45 rfl fun c₀ cs hu => ?_
  apply wpS_seq
  apply wpS_region
  simp [wpOpsS, go_sem, recoverD, hu, Try.ntmps45, Exit.thenS]
  refine wpS_cond (t := false) (by simp [Act.eval, Array.replicate]) ?_
  simp only [Bool.false_eq_true, if_false]
  refine wpS_of_wp (wp_skip ?_)
  cases c₀
  simp_all [bodyPostS, results, Try.results45]
theorem leave_rlR {tmps : Array Value} {R : Ending → World → Prop} {wr : World} {A E : Nat} {v u : Value} (hA : wr.cell? ⟨A, 0, none⟩ = some v) (hE : wr.cell? ⟨E, 0, none⟩ = some u)
    (h4 : tmps.getD 4 undef = .pointer (some ⟨A, 0, none⟩)) (h5 : tmps.getD 5 undef = .pointer (some ⟨E, 0, none⟩)) (hR : R (.returned (.tuple #[v, u])) wr) :
    Leaves Try.prog Try.f30 tmps R [{ target := .fn (.func 45) #[.pointer (some ⟨A, 0, none⟩), .pointer (some ⟨E, 0, none⟩)], args := #[] }] .returning wr := by
  refine leaves_cons (f := 45) (args := #[.pointer (some ⟨A, 0, none⟩), .pointer (some ⟨E, 0, none⟩)]) (by simp) (by simp [go_sem]) ?_
  refine (catch_readR ⟨A, 0, none⟩ ⟨E, 0, none⟩ _).mono ?_
  rintro e u' w'' ⟨rfl, rfl, rfl⟩
  have h4' : tmps[4]?.getD undef = .pointer (some ⟨A, 0, none⟩) := by simpa using h4
  have h5' : tmps[5]?.getD undef = .pointer (some ⟨E, 0, none⟩) := by simpa using h5
  simp [Leaves, settle, results, Try.results30, go_sem, h4', h5', hA, hE]
  exact hR

structure RlR (w : World) (acc : List RecL) (st : St) (wr : World) : Prop where
  bel : Below w.heap.size w wr
  sz : w.heap.size + 3 ≤ wr.heap.size
  cE : wr.heap[w.heap.size + 1]? = some (.cells #[.int .i64 0] 25 (0, 0))
  cA : ∃ v, wr.heap[w.heap.size]? = some (.cells #[v] 31 (0, 0)) ∧ OwnR wr (w.heap.size + 3) v acc
  rd : RdAt wr (w.heap.size + 2) st
theorem RlR.chg {w : World} {acc : List RecL} {st st' : St} {wr wr' : World} (h : RlR w acc st wr) (hc : Chg (w.heap.size + 2) wr wr') (hr : RdAt wr' (w.heap.size + 2) st') : RlR w acc st' wr' := by
  obtain ⟨v, h1, h2⟩ := h.cA
  have hs := h.sz
  exact ⟨h.bel.trans (hc.below (by omega) h.bel.size), by have := hc.size; omega, by rw [hc.block _ (by omega) (by omega)]; exact h.cE,
    ⟨v, by rw [hc.block _ (by omega) (by omega)]; exact h1, OwnR.chg h2 hc (by omega)⟩, hr⟩
theorem RlR.below {w : World} {acc : List RecL} {st : St} {wr wr' : World} (h : RlR w acc st wr) (hb : Below wr.heap.size wr wr') : RlR w acc st wr' := by
  obtain ⟨v, h1, h2⟩ := h.cA
  have hs := h.sz
  exact ⟨h.bel.trans (hb.mono h.bel.size), by have := hb.size; omega, by rw [hb.block _ (by omega)]; exact h.cE,
    ⟨v, by rw [hb.block _ (by omega)]; exact h1, OwnR.below h2 hb⟩, h.rd.below hb⟩
theorem rdAt_setR {w : World} {g k o : Nat} {u : Value} {st : St} (h : RdAt w g st) (hk : k ≠ g) : RdAt (w.setCell ⟨k, o, none⟩ u) g st := ⟨h.bd, by rw [Below.heap_setCell _ _ _ _ (Ne.symm hk)]; exact h.at_⟩
theorem RlR.app {w : World} {acc : List RecL} {x : RecL} {st : St} {wr w5 : World} {v v5 : Value} (h : RlR w acc st wr) (hA : wr.heap[w.heap.size]? = some (.cells #[v] 31 (0, 0))) (hlt : ∀ g, v.ownBlock = some g → w.heap.size + 3 ≤ g)
    (ho : OwnR w5 (w.heap.size + 3) v5 (acc ++ [x])) (hg : wr.grownBy w5 v.ownBlock) : (w5.heap[w.heap.size]? = some (.cells #[v] 31 (0, 0))) ∧ RlR w (acc ++ [x]) st (w5.setCell ⟨w.heap.size, 0, none⟩ v5) := by
  have hs := h.sz
  have hne : ∀ k, k < w.heap.size + 3 → some k ≠ v.ownBlock := fun k hk e => by have := hlt k e.symm; omega
  have hA5 : w5.heap[w.heap.size]? = some (.cells #[v] 31 (0, 0)) := by rw [hg.block _ (by omega) (hne _ (by omega))]; exact hA
  refine ⟨hA5, ?_⟩
  have hz : (w5.setCell ⟨w.heap.size, 0, none⟩ v5).heap.size = w5.heap.size := by simp [World.setCell]
  exact ⟨(h.bel.grown hg h.bel.size (fun g e => by have := hlt g e; omega)).setCell (p := ⟨w.heap.size, 0, none⟩) (Nat.le_refl _) _, by rw [hz]; have := hg.size; omega,
    by rw [Below.heap_setCell _ _ _ _ (show w.heap.size + 1 ≠ w.heap.size by omega), hg.block _ (by omega) (hne _ (by omega))]; exact h.cE,
    ⟨v5, set_at hA5 0 v5, recs_set ho (by omega)⟩, rdAt_setR (h.rd.grown hg (hne _ (by omega))) (by omega)⟩
theorem num_front' (n : Nat) (r : List UInt8) (h : n < 268435456) : rdV numC 0 (.ok (be4 n ++ r)) = n ∧ rdR numC (.ok (be4 n ++ r)) = .ok r := by
  have hd : numC.dec (be4 n ++ r) = .ok (n, r) := numC.rt n r h
  exact ⟨rdV_ok hd, rdR_ok hd⟩
theorem drop_rec (ls : List RecL) (k : Nat) (hk : k < ls.length) : encR textC ((ls.drop k).map recC.enc) = textC.enc (recC.enc (ls.getD k ([], []))) ++ encR textC ((ls.drop (k + 1)).map recC.enc) := by
  rw [List.drop_eq_getElem_cons hk]
  simp only [List.map_cons, List.getD, List.getElem?_eq_getElem hk, Option.getD_some]
  rfl

set_option maxHeartbeats 4000000 in
theorem readListR_ok (ls : List RecL) (hn : ls.length ≤ 1000) (hs : sumRec ls ≤ 100000) (b : List UInt8) (hb : b = recsL ls) (n : Nat) (hbl : b.length = n) (p : Option Addr) (cap : Nat) (w : World) (hp : Row w .u8 p (nums b)) :
    Calls Try.prog 30 #[.slice p n cap, .func (.func 31) #[] #[]] w fun e w' => ∃ v, e = .returned (.tuple #[v, .int .i64 0]) ∧ OwnR w' w.heap.size v ls ∧ Below w.heap.size w w' := by
  have hfn : ∀ w : World, (binOp .eql 73 (.func (.func 31) #[] #[]) .nilFunc).run Try.prog w = .ok (.bool false) w := fun _ => by kernel_rfl
  have hmf : ∀ (fn : Fn) (first cap : Array Value) (w : World), (Instr.makeFunc fn first cap).run Try.prog w = .ok (.func fn first cap) w := fun _ _ _ _ => rfl
  obtain ⟨w0, hw0⟩ : ∃ w0, (w.alloc (.cells #[.slice none 0 0] 31)).alloc (.cells #[.int .i64 0] 25) = w0 := ⟨_, rfl⟩
  have z0 : w0.heap.size = w.heap.size + 2 := by rw [← hw0]; simp
  have hb0 : Below w.heap.size w w0 := hw0 ▸ ((Below.refl _ _).alloc (Nat.le_refl _) _).alloc (by simp) _
  have hA0 : w0.heap[w.heap.size]? = some (.cells #[.slice none 0 0] 31 (0, 0)) := by
    have hb1 : Below (w.alloc (.cells #[.slice none 0 0] 31)).heap.size (w.alloc (.cells #[.slice none 0 0] 31)) w0 := hw0 ▸ (Below.refl _ _).alloc (Nat.le_refl _) _
    rw [hb1.block w.heap.size (by simp)]
    exact new_block _ _ _
  have hE0 : w0.heap[w.heap.size + 1]? = some (.cells #[.int .i64 0] 25 (0, 0)) := by
    have := new_block (w.alloc (.cells #[.slice none 0 0] 31)) #[.int .i64 0] 25
    rw [hw0] at this
    rwa [show (w.alloc (.cells #[.slice none 0 0] 31)).heap.size = w.heap.size + 1 by simp] at this
  have hcr := rnew_any w0 b p cap (hp.below hb0)
  rw [z0, hbl] at hcr
  have CR := Lib.hid hcr
  have H0 := Lib.hid (And.intro hb0 (And.intro hA0 (And.intro hE0 z0)))
  obtain ⟨m, hm⟩ : ∃ m, ls.length = m := ⟨_, rfl⟩
  have hbe : b = be4 m ++ encR textC ((ls.drop 0).map recC.enc) := by
    rw [hb, ← hm]
    show be4 (ls.map recC.enc).length ++ encR textC (ls.map recC.enc) = _
    rw [List.length_map]; rfl
  have CN := Lib.hid (show ∀ w1, RdAt w1 (w.heap.size + 2) (.ok b) → Calls Try.prog 26 #[.pointer (some ⟨w.heap.size + 2, 0, none⟩)] w1 fun e w' => e = .returned (.int .i64 m) ∧ RdAt w' (w.heap.size + 2) (.ok (encR textC ((ls.drop 0).map recC.enc))) ∧ Chg (w.heap.size + 2) w1 w' from fun w1 h => by
    have := pcNumber_any w1 (w.heap.size + 2) (.ok b) h
    rw [hbe, (num_front' m _ (by omega)).1, (num_front' m _ (by omega)).2] at this
    exact this)
  have HL := Lib.hid (And.intro hm (And.intro hn hs))
  have hm1 : m ≤ 1000 := by omega
  clear hp hb0 hA0 hE0 z0 hbl hb hbe hm hn hs hcr
  go_enter_defers Try.func30, Try.ntmps30
  go_wp2_with fail
  clear hw0
  refine CR.out.mono ?_
  rintro e w1 ⟨rfl, hr1, hb1⟩
  have HI1 := Lib.hid (show RlR w [] (.ok b) w1 from by
    obtain ⟨h1, h2, h3, h4⟩ := H0.out
    have hb1' : Below w0.heap.size w0 w1 := by rw [h4]; exact hb1
    exact ⟨h1.trans (hb1'.mono h1.size), by have := hr1.lt; omega, by rw [hb1'.block _ (by omega)]; exact h3, ⟨_, by rw [hb1'.block _ (by omega)]; exact h2, OwnR.nil _ _⟩, hr1⟩)
  have C1 := Lib.hid (CN.out w1 hr1)
  clear hr1 hb1
  go_wp2_with fail
  refine C1.out.mono ?_
  rintro e w2 ⟨rfl, hr2, hc2⟩
  have HI2 := Lib.hid (HI1.out.chg hc2 hr2)
  clear hr2 hc2 CR CN C1
  go_wp2_with fail
  go_loopw [7, 8, 9, 18] (fun _ _ _ i wr => ∃ (k : Nat), k ≤ m ∧ i = .int .i64 k ∧ Hid (RlR w (ls.take k) (.ok (encR textC ((ls.drop k).map recC.enc))) wr)) (fun _ _ _ i _ => m - (intOf i).toNat)
  case atStart => exact ⟨0, Nat.zero_le _, rfl, HI2⟩
  case round =>
    obtain ⟨k, hk, rfl, HR⟩ := hrel
    by_cases hlt : k < m
    · have hltz : (k : Int) < (m : Int) := by omega
      have hkl : k < ls.length := by rw [HL.out.1]; exact hlt
      obtain ⟨x, hx⟩ : ∃ x, ls.getD k ([], []) = x := ⟨_, rfl⟩
      have hxm : 8 + x.1.length + x.2.length ≤ 100000 := by
        have h1 := rec_mem ls x (by rw [← hx]; simp only [List.getD, List.getElem?_eq_getElem hkl, Option.getD_some]; exact List.getElem_mem _)
        have h2 := HL.out.2.2
        omega
      have hdr := drop_rec ls k hkl
      rw [hx] at hdr
      obtain ⟨Y, hY⟩ : ∃ Y, recC.enc x = Y := ⟨_, rfl⟩
      have hYl : Y.length ≤ 268435455 := by rw [← hY, rec_len]; omega
      rw [hY] at hdr
      have hrd := HR.out.rd
      have htk : ls.take (k + 1) = ls.take k ++ [x] := by
        rw [List.take_succ_eq_append_getElem hkl, ← hx]
        simp only [List.getD, List.getElem?_eq_getElem hkl, Option.getD_some]
      have CT := Lib.hid (show Calls Try.prog 27 #[.pointer (some ⟨w.heap.size + 2, 0, none⟩)] wr fun e w' => e = .returned (.string (strB Y)) ∧ RdAt w' (w.heap.size + 2) (.ok (encR textC ((ls.drop (k + 1)).map recC.enc))) ∧ Chg (w.heap.size + 2) wr w' from by
        have := text_any wr (w.heap.size + 2) _ hrd
        rw [hdr, (rd_text_at Y _ hYl).1, (rd_text_at Y _ hYl).2] at this
        exact this)
      have HY := Lib.hid (And.intro hY (And.intro htk hxm))
      clear hrd hdr hx hY htk hkl hYl hxm
      go_wp2_with fail
      refine CT.out.mono ?_
      rintro e w3 ⟨rfl, hr3, hc3⟩
      have HI3 := Lib.hid (HR.out.chg hc3 hr3)
      have d1 := cell_at hr3.at_ 1
      simp only [errS] at d1
      clear hr3 hc3
      obtain ⟨cap4, w4, h4, _, hr4, hb4⟩ := conv_bytes w3 Y
      rw [strB_size] at h4
      have HI4 := Lib.hid (HI3.out.below hb4)
      have CB := Lib.hid (readRec_ok x (by have := HY.out.2.2; omega) (by have := HY.out.2.2; omega) Y HY.out.1.symm Y.length rfl (some ⟨w3.heap.size, 0, none⟩) cap4 w4 hr4)
      obtain ⟨yl, hyl⟩ : ∃ m, Y.length = m := ⟨_, rfl⟩
      rw [hyl] at h4 CB
      obtain ⟨x1, x2⟩ := x
      simp only at CB
      clear hr4 hb4 hyl
      go_wp2_with fail
      refine CB.out.mono ?_
      rintro e w5 ⟨rfl, hb5⟩
      obtain ⟨w6, hw6⟩ : ∃ w6, w5.alloc (.cells #[.string (strB x1), .string (strB x2)] 30) = w6 := ⟨_, rfl⟩
      have hb6 : Below w5.heap.size w5 w6 := hw6 ▸ (Below.refl _ _).alloc (Nat.le_refl _) _
      have HI6 := Lib.hid ((HI4.out.below hb5).below hb6)
      have k0 : w6.cell? ⟨w5.heap.size, 0, none⟩ = some (.string (strB x1)) := by rw [← hw6]; exact cell_at (new_block w5 _ _) 0
      have k1 : w6.cell? ⟨w5.heap.size, 1, none⟩ = some (.string (strB x2)) := by rw [← hw6]; exact cell_at (new_block w5 _ _) 1
      obtain ⟨v3, hA3, hO3⟩ := HI6.out.cA
      obtain ⟨q3, d3, rfl, -⟩ := hO3.row
      obtain ⟨l3, hl3⟩ : ∃ l, (ls.take k).length = l := ⟨_, rfl⟩
      rw [hl3] at hA3 hO3
      have a0 := cell_at hA3 0
      have HA3 := Lib.hid (And.intro hA3 hO3)
      have x0 := cell_at (new_block w6 #[.string (strB x1), .string (strB x2)] 30) 0
      have x1' := cell_at (new_block w6 #[.string (strB x1), .string (strB x2)] 30) 1
      have hls : (ls.take k).length ≤ 1000000 := by rw [List.length_take]; have := HL.out.2.1; omega
      have hsz : w.heap.size + 3 ≤ (w6.alloc (.cells #[.string (strB x1), .string (strB x2)] 30)).heap.size := by have := HI6.out.sz; simp; omega
      clear hb5 hb6 hA3 hO3 hl3
      go_wp2_with (at_builtin; refine wpList_push_rec rfl _ _ rfl (w.heap.size + 3) (.slice q3 l3 d3) (ls.take k) rfl (HA3.out.2.alloc _) w6.heap.size 1 (x1, x2) rfl x0 x1' hls hsz ?_)
      clear hw6
      intro v5 w7 ho7 hg7
      have hal : Below w6.heap.size w6 (w6.alloc (.cells #[.string (strB x1), .string (strB x2)] 30)) := (Below.refl _ _).alloc (Nat.le_refl _) _
      obtain ⟨hA7, hI7⟩ := (HI6.out.below hal).app (x := (x1, x2)) (v5 := v5) (by rw [hal.block _ (by have := HI6.out.sz; omega)]; exact HA3.out.1) HA3.out.2.lt ho7 hg7
      rw [← HY.out.2.1] at hI7
      obtain ⟨q5, d5, rfl, -⟩ := ho7.row
      obtain ⟨l5, hl5⟩ : ∃ l, (ls.take k ++ [(x1, x2)]).length = l := ⟨_, rfl⟩
      rw [hl5] at hI7 ⊢
      have HI7 := Lib.hid (show RlR w (ls.take (k + 1)) (.ok (encR textC ((ls.drop (k + 1)).map recC.enc))) (w7.setCell ⟨w.heap.size, 0, none⟩ (.slice q5 l5 d5)) from hI7)
      have g0 := cell_at hA7 0
      have g1 := frozen_at hA7 0
      clear hal hI7 ho7 hg7 hA7 a0 x0 x1' k0 k1 hl5
      go_wp2_with fail
      go_roundw
      case rel => exact ⟨k + 1, by omega, by go_num, HI7⟩
      case measure => simp [intOf]; omega
    · obtain rfl : k = m := by omega
      have hltz : ¬ (k : Int) < (k : Int) := by omega
      have HK := Lib.hid (show RlR w ls (.ok []) wr from by
        have := HR.out
        rwa [← HL.out.1, List.take_length, List.drop_length] at this)
      have CE := Lib.hid (show Calls Try.prog 28 #[.pointer (some ⟨w.heap.size + 2, 0, none⟩)] wr fun e w' => e = .returned (.int .i64 0) ∧ wr = w' from end_any wr (w.heap.size + 2) (.ok []) HK.out.rd)
      obtain ⟨v3, hA3, hO3⟩ := HK.out.cA
      obtain ⟨q3, d3, rfl, -⟩ := hO3.row
      obtain ⟨l3, hl3⟩ : ∃ l, ls.length = l := ⟨_, rfl⟩
      rw [hl3] at hA3 hO3
      have a0 := cell_at hA3 0
      have a1 := frozen_at hA3 0
      have e0 := cell_at HK.out.cE 0
      have e1 := frozen_at HK.out.cE 0
      have HO3 := Lib.hid hO3
      clear hA3 hO3 hl3
      go_wp2_with fail
      refine CE.out.mono ?_
      rintro e w3 ⟨rfl, rfl⟩
      go_wp2_with fail
      refine leave_rlR (v := .slice q3 l3 d3) (u := .int .i64 0) (by simp [go_sem, a0]) (by simp [go_sem, e0]) rfl rfl ⟨.slice q3 l3 d3, rfl, ?_, ?_⟩
      · have h9 := recs_set (o := 0) (u := .int .i64 0) (recs_set (o := 0) (u := .slice q3 l3 d3) HO3.out (show w.heap.size < w.heap.size + 3 by omega)) (show w.heap.size + 1 < w.heap.size + 3 by omega)
        obtain ⟨h4, h5 | ⟨g, cap, cur, e, hg, r⟩⟩ := h9
        · exact ⟨h4, Or.inl h5⟩
        · exact ⟨h4, Or.inr ⟨g, cap, cur, e, by omega, r⟩⟩
      · exact (HK.out.bel.setCell (p := ⟨w.heap.size, 0, none⟩) (Nat.le_refl _) _).setCell (p := ⟨w.heap.size + 1, 0, none⟩) (Nat.le_succ _) _
end Go.Proofs.Ytlbkpgpkokgcbaa
