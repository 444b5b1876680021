/-
  Several texts in one: JnMath, JnRecs, JnList, JnPack, JnShort, JnRdRec, JnRdLst.
-/
import Derived.Test.YtkidahlhnhglfaaPcRdRep
import Derived.Test.YtkidahlhnhglfaaPcLstM
import Derived.Tactics2
import Derived.Recover
import Derived.Laws.EntriesVeiled
import Derived.Test.YtkidahlhnhglfaaPcItRec
import Derived.Test.YtkidahlhnhglfaaSlFirst
import Derived.WalkSpells
namespace Go.Proofs.Ytkidahlhnhglfaa
open Go.RowKit

/-- the bytes of a list of records. -/
def recsL (ls : List RecL) : List UInt8 := (Codec.list textC).enc (ls.map recC.enc)
theorem rec_texts (M : Nat) (r : RecL) (h1 : r.1.length ≤ 268435455) (h2 : r.2.length ≤ 268435455) (h : 8 + r.1.length + r.2.length ≤ M) : textsS M (some []) [r.1, r.2] = some (recC.enc r) := by
  rw [texts_room M [r.1, r.2] [] (by intro x hx; simp only [List.mem_cons, List.not_mem_nil, or_false] at hx; rcases hx with rfl | rfl <;> assumption) (by show 0 + (4 + _ + (4 + _ + 0)) ≤ M; omega)]
  show some ([] ++ (textC.enc r.1 ++ (textC.enc r.2 ++ []))) = some (textC.enc r.1 ++ textC.enc r.2)
  rw [List.nil_append, List.append_nil]
theorem encT_len (s : List UInt8) : (textC.enc s).length = 4 + s.length := by show (be4 _ ++ s).length = _; rw [List.length_append]; rfl
theorem rec_len (r : RecL) : (recC.enc r).length = 8 + r.1.length + r.2.length := by
  show (textC.enc r.1 ++ textC.enc r.2).length = _
  rw [List.length_append, encT_len, encT_len]; omega
def sumRec (ls : List RecL) : Nat := sumL3 (ls.map recC.enc)
theorem rec_mem (ls : List RecL) (r : RecL) (h : r ∈ ls) : 8 + r.1.length + r.2.length ≤ sumRec ls := by
  have := sum_mem (ls.map recC.enc) (recC.enc r) (List.mem_map_of_mem h)
  rw [rec_len] at this
  exact this
theorem recsL_len (ls : List RecL) : (recsL ls).length = 4 + 4 * ls.length + sumRec ls := by
  unfold recsL sumRec
  rw [encL_len, List.length_map]

/-- a deed. -/
structure DeedL where
  d : Int
  a : AskL
  e : Int
  f : List UInt8
  t : List UInt8
  ep : Int
  ls : List RecL
def jdCells (x : DeedL) (p : Option Addr) (k : Nat) : Array Value := #[.int .i64 x.d, .int .i64 x.a.d, .int .i64 x.a.c, .int .i64 x.a.s, .string (strB x.a.t), .string (strB x.a.v), .string (strB x.a.f), .string (strB x.a.u), .int .i64 x.a.m, .int .i64 x.e, .string (strB x.f), .string (strB x.t), .int .i64 x.ep, .slice p x.ls.length k]
def jdV (x : DeedL) (p : Option Addr) (k : Nat) : Value := .agg #[.int .i64 x.d, .int .i64 x.a.d, .int .i64 x.a.c, .int .i64 x.a.s, .string (strB x.a.t), .string (strB x.a.v), .string (strB x.a.f), .string (strB x.a.u), .int .i64 x.a.m, .int .i64 x.e, .string (strB x.f), .string (strB x.t), .int .i64 x.ep, .slice p x.ls.length k]
/-- what Pack lays. -/
def packA (x : DeedL) (a : List UInt8) : Option (List UInt8) := textsS 9223372036854775807 (numsS 9223372036854775807 (some []) [x.d, x.e, x.ep]) [x.f, x.t, a, recsL x.ls]
def packS (x : DeedL) : Option (List UInt8) :=
  match askS x.a with
  | none => none
  | some a => packA x a
theorem askS_len {a : AskL} {b : List UInt8} (h : askS a = some b) : b.length ≤ 32768 := by
  unfold askS at h
  generalize numsS 32768 (some []) [a.d, a.c, a.s, a.m] = s at h
  show b.length ≤ 32768
  have h2 : layS 32768 (numS 32768 (textsS 32768 s [a.t, a.v, a.f]) a.u.length) a.u = some b := h
  exact layS_bd h2

/-- the parts of a deed, one behind the other. -/
def deedC : Codec (Nat × Nat × Nat × List UInt8 × List UInt8 × List UInt8 × List UInt8) :=
  numC.pair (numC.pair (numC.pair (textC.pair (textC.pair (textC.pair textC)))))
theorem deed_seq (st : St) : rdR deedC st = rdR textC (rdR textC (rdR textC (rdR textC (rdR numC (rdR numC (rdR numC st)))))) := by
  unfold deedC
  simp only [rdR_pair]
theorem deed_vals (st : St) {r : List UInt8} (h : rdR deedC st = .ok r) : rdV deedC (0, 0, 0, [], [], [], []) st =
    (rdV numC 0 st, rdV numC 0 (rdR numC st), rdV numC 0 (rdR numC (rdR numC st)), rdV textC [] (rdR numC (rdR numC (rdR numC st))), rdV textC [] (rdR textC (rdR numC (rdR numC (rdR numC st)))), rdV textC [] (rdR textC (rdR textC (rdR numC (rdR numC (rdR numC st))))), rdV textC [] (rdR textC (rdR textC (rdR textC (rdR numC (rdR numC (rdR numC st))))))) := by
  unfold deedC at h ⊢
  rw [rdV_pair _ _ _ _ h]
  rw [rdR_pair] at h
  rw [rdV_pair _ _ _ _ h]
  rw [rdR_pair] at h
  rw [rdV_pair _ _ _ _ h]
  rw [rdR_pair] at h
  rw [rdV_pair _ _ _ _ h]
  rw [rdR_pair] at h
  rw [rdV_pair _ _ _ _ h]
  rw [rdR_pair] at h
  rw [rdV_pair _ _ _ _ h]

/-- is a text that is to come not there wholly? -/
def shortT : Nat → List UInt8 → Bool
  | 0, _ => false
  | n + 1, b => if b.length < 4 then true else if (b.drop 4).length < numL (b.take 4) then true else shortT n ((b.drop 4).drop (numL (b.take 4)))
def shortB (b : List UInt8) : Bool := if b.length < 12 then true else shortT 4 (b.drop 12)
end Go.Proofs.Ytkidahlhnhglfaa
namespace Go.Proofs.Ytkidahlhnhglfaa
open Go.RowKit

theorem set_same {w : World} {g o : Nat} {v : Value} (h : w.cell? ⟨g, o, none⟩ = some v) : w.setCell ⟨g, o, none⟩ v = w := by
  have hm : (w.setCell ⟨g, o, none⟩ v).heap = w.heap := by
    apply Array.ext
    · simp [World.setCell]
    · intro i h1 h2
      simp only [World.setCell, Array.getElem_modify]
      by_cases hi : g = i
      · subst hi
        rw [if_pos rfl]
        have hx : w.heap[g]? = some w.heap[g] := Array.getElem?_eq_getElem h2
        generalize w.heap[g] = x at hx ⊢
        cases x with
        | cells c e f =>
          simp only [World.cell?, hx] at h
          have hc : c[o]? = some v := by simpa using h
          obtain ⟨ho, hv⟩ := Array.getElem?_eq_some_iff.1 hc
          simp only [Option.isSome_none, Bool.false_eq_true, if_false]
          congr 1
          rw [← hv]
          apply Array.ext
          · simp
          · intro j _ _
            rw [Array.getElem_setIfInBounds (by assumption)]
            split
            · subst_vars; rfl
            · rfl
        | _ => rfl
      · rw [if_neg hi]
  exact congrArg (fun H => ({ w with heap := H } : World)) hm

theorem jnew_any (w : World) : Calls Try.prog 55 #[] w fun e w' => e = .returned (.pointer (some ⟨w.heap.size, 0, none⟩)) ∧ PkAt w' w.heap.size w.heap.size 9223372036854775807 (some []) ∧ Below w.heap.size w w' := by
  have CN := Lib.hid (pcNew_any w 9223372036854775807)
  go_enter Try.func55, Try.ntmps55
  go_wp2_with fail
  refine CN.out.mono ?_
  rintro e w1 ⟨rfl, hp, hb⟩
  have H := Lib.hid (And.intro hp hb)
  clear hp hb
  go_wp2_with fail
  go_ret
  exact ⟨rfl, H.out⟩

set_option maxHeartbeats 1000000 in
/-- a record packed: nothing is refused. -/
theorem one_rec (x : RecL) (R : Nat) (w : World) (hR : w.heap[R]? = some (.cells #[.bool false] 4 (0, 0))) (h : 8 + x.1.length + x.2.length ≤ 200000) :
    Calls Try.prog 69 #[.agg #[.string (strB x.1), .string (strB x.2)], .pointer (some ⟨R, 0, none⟩)] w fun e w' => ∃ v, e = .returned v ∧ Own w' w.heap.size 5 .u8 v (nums (recC.enc x)) ∧ Below w.heap.size w w' := by
  have hRlt : R < w.heap.size := (Array.getElem?_eq_some_iff.1 hR).1
  obtain ⟨W0, hW0⟩ : ∃ W0, w.alloc (.cells #[.string (strB x.1), .string (strB x.2)] 57) = W0 := ⟨_, rfl⟩
  have hz0 : W0.heap.size = w.heap.size + 1 := by rw [← hW0]; simp
  have hal : Below w.heap.size w W0 := hW0 ▸ (Below.refl _ _).alloc (Nat.le_refl _) _
  have CJ := Lib.hid (jnew_any W0)
  rw [hz0] at CJ
  have HC := Lib.hid (show ∀ wr, Below (w.heap.size + 1) W0 wr → ∀ i, wr.cell? ⟨w.heap.size, i, none⟩ = _ from fun wr hb i => box_cells (hW0 ▸ hb) i)
  have HRB := Lib.hid (show ∀ wr, Below w.heap.size w wr → wr.heap[R]? = some (.cells #[.bool false] 4 (0, 0)) from fun wr hb => by rw [hb.block R hRlt]; exact hR)
  have HBW := Lib.hid hal
  have HE := Lib.hid (rec_texts 9223372036854775807 x (by omega) (by omega) (by omega))
  have HH := Lib.hid h
  obtain ⟨Y, hY⟩ : ∃ Y, recC.enc x = Y := ⟨_, rfl⟩
  obtain ⟨x1, x2⟩ := x
  simp only at HE HH hW0 HC ⊢
  rw [hY] at HE ⊢
  clear hY hR hal hRlt h
  go_enter Try.func69, Try.ntmps69
  go_wp2_with fail
  clear hW0
  refine CJ.out.mono ?_
  rintro e w1 ⟨rfl, hp1, hb1⟩
  have c0 := HC.out w1 hb1 0
  have c1 := HC.out w1 hb1 1
  have HB1 := Lib.hid hb1
  have hal1 : Below w1.heap.size w1 (w1.alloc (.cells #[.string (strB x1), .string (strB x2)] 9)) := (Below.refl _ _).alloc (Nat.le_refl _) _
  have hz1 : w.heap.size + 1 ≤ w1.heap.size := by have := hb1.size; omega
  have HBA := Lib.hid (hb1.trans (hal1.mono hz1))
  have CT := Lib.hid (texts_any (w1.alloc (.cells #[.string (strB x1), .string (strB x2)] 9)) (w.heap.size + 1) (w.heap.size + 1) 9223372036854775807 w1.heap.size (some []) [x1, x2] (by simp; omega) (hp1.below hal1) (by omega) (Or.inr (by show 0 + (4 + _ + (4 + _ + 0)) ≤ 1000000000000; have := HH.out; omega)) (new_block _ _ _) (by simp) : Calls Try.prog 32 #[.pointer (some ⟨w.heap.size + 1, 0, none⟩), .slice (some ⟨w1.heap.size, 0, none⟩) 2 2] _ _)
  rw [HE.out] at CT
  clear hp1 hb1 hal1 hz1
  go_wp2_with fail
  refine CT.out.mono ?_
  rintro e w2 ⟨rfl, hl2⟩
  have HB2 := Lib.hid (HBA.out.trans hl2.bl)
  have CP := Lib.hid (packed_any w2 (w.heap.size + 1) (w.heap.size + 1) 9223372036854775807 _ hl2.pk)
  clear hl2 c0 c1
  go_wp2_with fail
  refine CP.out.mono ?_
  rintro e w3 ⟨v, rfl, ho3, hb3⟩
  have HB3 := Lib.hid (show Below w.heap.size w w3 from HBW.out.trans ((HB2.out.trans hb3).mono (by omega)))
  have HO3 := Lib.hid (show Own w3 w.heap.size 5 .u8 v (nums Y) from by
    obtain ⟨h4, h5 | ⟨g, cap, cur, e, hg, r⟩⟩ := ho3
    · exact ⟨h4, Or.inl h5⟩
    · exact ⟨h4, Or.inr ⟨g, cap, cur, e, by omega, r⟩⟩)
  have hbk := HRB.out w3 HB3.out
  have r0 := cell_at hbk 0
  have r1 := frozen_at hbk 0
  have hss : w3.setCell ⟨R, 0, none⟩ (.bool false) = w3 := set_same (by rw [r0]; rfl)
  clear ho3 hb3 hbk
  simp only [errP, Option.isNone_some, Bool.false_eq_true, if_false]
  go_wp2_with fail
  go_ret
  exact ⟨_, rfl, HO3.out, HB3.out⟩
end Go.Proofs.Ytkidahlhnhglfaa
namespace Go.Proofs.Ytkidahlhnhglfaa
open Go.RowKit

theorem catch_listR (w : World) :
    CallsD Try.prog 80 #[] .returning w fun e u' w' => e = .returned (.tuple #[]) ∧ u' = .returning ∧ w' = w := by
  refine callsD_of_wpS Try.func80 rfl fun c₀ cs hu => ?_
  apply wpS_region
  simp [wpOpsS, go_sem, recoverD, hu, Try.ntmps80]
  cases c₀
  simp_all [bodyPostS, results, Try.results80]

theorem Laid.belowR {w w1 w2 : World} {B g M : Nat} {st : Option (List UInt8)} (h : Laid w B g M st w1) (hB : B ≤ w.heap.size) (hb : Below w1.heap.size w1 w2) : Laid w B g M st w2 :=
  ⟨h.pk.below hb, h.bl.trans (hb.mono (Nat.le_trans hB h.bl.size)), h.fr.trans (Fr.of_below hb)⟩
theorem texts_one (M : Nat) (st : Option (List UInt8)) (x : List UInt8) : textsS M st [x] = textS M st x := rfl
theorem recs_getD (ls : List RecL) (k : Nat) (hk : k < ls.length) : (ls.map recC.enc).getD k [] = recC.enc (ls.getD k ([], [])) := by
  simp [List.getD, hk]

set_option maxHeartbeats 1000000 in
/-- List's closure: what one answers, laid as a text. -/
theorem layOneR_any (x : RecL) (R : Nat) (w : World) (B gp M bx : Nat) (st : Option (List UInt8)) (hR : w.heap[R]? = some (.cells #[.bool false] 4 (0, 0))) (hx : 8 + x.1.length + x.2.length ≤ 100000) (hbx : w.heap[bx]? = some (.cells #[.func (.func 69) #[] #[.pointer (some ⟨R, 0, none⟩)]] 123 (0, 0))) (hB : B ≤ w.heap.size) (hpk : PkAt w B gp M st) (hM : M ≤ 9223372036854775807) (hr : M ≤ 1000000000000 ∨ (st.getD []).length + sizeT [recC.enc x] ≤ 1000000000000) :
    Calls Try.prog 81 #[.pointer (some ⟨gp, 0, none⟩), .agg #[.string (strB x.1), .string (strB x.2)], .pointer (some ⟨bx, 0, none⟩)] w fun e w' => e = .returned (.tuple #[]) ∧ Laid w B gp M (textS M st (recC.enc x)) w' := by
  obtain ⟨wa, hwa⟩ : ∃ wa, w.alloc (.cells #[.string (strB x.1), .string (strB x.2)] 57) = wa := ⟨_, rfl⟩
  have hal : Below w.heap.size w wa := hwa ▸ (Below.refl _ _).alloc (Nat.le_refl _) _
  have haz : wa.heap.size = w.heap.size + 1 := by rw [← hwa]; simp
  have y0 : wa.cell? ⟨w.heap.size, 0, none⟩ = some (.string (strB x.1)) := by rw [← hwa]; exact cell_at (new_block w _ _) 0
  have y1 : wa.cell? ⟨w.heap.size, 1, none⟩ = some (.string (strB x.2)) := by rw [← hwa]; exact cell_at (new_block w _ _) 1
  have hRlt : R < w.heap.size := (Array.getElem?_eq_some_iff.1 hR).1
  have hXlt : bx < w.heap.size := (Array.getElem?_eq_some_iff.1 hbx).1
  have C1 := Lib.hid (one_rec x R wa (by rw [hal.block R hRlt]; exact hR) (by omega))
  have hxb := cell_at (show wa.heap[bx]? = _ by rw [hal.block bx hXlt]; exact hbx) 0
  have HLa := Lib.hid ((Laid.refl hpk).belowR hB hal)
  have HH := Lib.hid (And.intro hB (And.intro hM hr))
  clear hpk hB hM hr hR hx hRlt hXlt hbx
  obtain ⟨x1, x2⟩ := x
  obtain ⟨Y, hY⟩ : ∃ Y, recC.enc (x1, x2) = Y := ⟨_, rfl⟩
  rw [hY] at C1 HH ⊢
  simp only at C1 hwa y0 y1 ⊢
  clear hY
  have HA := Lib.hid (And.intro haz hal)
  clear hal
  go_enter Try.func81, Try.ntmps81
  go_wp2_with fail
  refine C1.out.mono ?_
  rintro e w3 ⟨v3, rfl, ho3, hb3⟩
  obtain ⟨q3, d3, rfl, -, -, hr3⟩ := own_row ho3
  rw [nums_length]
  have hcv := run_string w3 Y q3 d3 hr3
  have HB3 := Lib.hid (hb3.trans (show Below wa.heap.size w3 (w3.alloc (.cells #[.string (strB Y)] 9)) from (Below.refl _ _).alloc hb3.size _))
  have HL3 := Lib.hid (HLa.out.belowR HH.out.1 HB3.out)
  have HNB3 := Lib.hid (new_block w3 #[.string (strB Y)] 9)
  have CT := Lib.hid (texts_any (w3.alloc (.cells #[.string (strB Y)] 9)) B gp M w3.heap.size _ [Y] (Nat.le_trans HH.out.1 (by have := hb3.size; have := HA.out.1; simp; omega)) HL3.out.pk HH.out.2.1 HH.out.2.2 HNB3.out (by simp))
  rw [texts_one] at CT
  obtain ⟨m, hm⟩ : ∃ m, Y.length = m := ⟨_, rfl⟩
  rw [hm] at hcv ⊢
  clear ho3 hr3 hb3 hm
  go_wp2_with fail
  refine CT.out.mono ?_
  rintro e w4 ⟨rfl, hl4⟩
  have HL4 := Lib.hid (HL3.out.trans hl4)
  clear hl4
  go_wp2_with fail
  exact bodyPost_end (v := .tuple #[]) (by simp [results, Try.results81]) rfl ⟨rfl, HL4.out⟩

set_option maxHeartbeats 2000000 in
theorem listR_any (ls : List RecL) (p : Option Addr) (cap R : Nat) (w : World) (hp : Recs w p ls) (hR : w.heap[R]? = some (.cells #[.bool false] 4 (0, 0))) (hn : ls.length ≤ 1000) (hs : sumRec ls ≤ 100000) :
    Calls Try.prog 68 #[.slice p ls.length cap, .func (.func 69) #[] #[.pointer (some ⟨R, 0, none⟩)]] w fun e w' => ∃ v, e = .returned v ∧ Own w' w.heap.size 5 .u8 v (nums (recsL ls)) ∧ Below w.heap.size w w' := by
  have hfn : ∀ w : World, (binOp .eql 123 (.func (.func 69) #[] #[.pointer (some ⟨R, 0, none⟩)]) .nilFunc).run Try.prog w = .ok (.bool false) w := fun _ => by kernel_rfl
  have hmf : ∀ (fn : Fn) (first cap : Array Value) (w : World), (Instr.makeFunc fn first cap).run Try.prog w = .ok (.func fn first cap) w := fun _ _ _ _ => rfl
  have hRlt : R < w.heap.size := (Array.getElem?_eq_some_iff.1 hR).1
  obtain ⟨W0, hW0⟩ : ∃ W0, w.alloc (.cells #[.func (.func 69) #[] #[.pointer (some ⟨R, 0, none⟩)]] 123) = W0 := ⟨_, rfl⟩
  have hz0 : W0.heap.size = w.heap.size + 1 := by rw [← hW0]; simp
  have hal : Below w.heap.size w W0 := hW0 ▸ (Below.refl _ _).alloc (Nat.le_refl _) _
  have hbl0 : W0.heap[w.heap.size]? = some (.cells #[.func (.func 69) #[] #[.pointer (some ⟨R, 0, none⟩)]] 123 (0, 0)) := hW0 ▸ new_block _ _ _
  have hc0 := cell_at hbl0 0
  have HC := Lib.hid (show ∀ wr, Below (w.heap.size + 1) W0 wr → wr.heap[w.heap.size]? = some (.cells #[.func (.func 69) #[] #[.pointer (some ⟨R, 0, none⟩)]] 123 (0, 0)) ∧ wr.heap[R]? = some (.cells #[.bool false] 4 (0, 0)) from fun wr hb => ⟨by rw [hb.block _ (by omega)]; exact hbl0, by rw [hb.block _ (by omega), hal.block _ hRlt]; exact hR⟩)
  have HBW := Lib.hid hal
  have CN := Lib.hid (pcNew_any W0 9223372036854775807)
  rw [hz0] at CN
  have HP := Lib.hid hp
  have HZ0 := Lib.hid hz0
  have hlm : (ls.map recC.enc).length = ls.length := List.length_map ..
  have hfo : ∀ (k : Nat) (S0 : Option (List UInt8)), (ls.take k).foldl (fun st r => textS 9223372036854775807 st (recC.enc r)) S0 = textsS 9223372036854775807 S0 ((ls.map recC.enc).take k) := fun k S0 => by
    unfold textsS
    rw [← List.map_take, List.foldl_map]
  have HST := Lib.hid (show ((numsS 9223372036854775807 (some []) [(ls.length : Int)]).getD []).length ≤ 4 from numS_len 9223372036854775807 (some []) (ls.length : Int))
  have HSX := Lib.hid (show ∀ k, k < ls.length → (((ls.take k).foldl (fun st r => textS 9223372036854775807 st (recC.enc r)) (numsS 9223372036854775807 (some []) [(ls.length : Int)])).getD []).length + sizeT [recC.enc (ls.getD k ([], []))] ≤ 1000000000000 from fun k hk => by
    rw [hfo]
    have h1 := textsS_len 9223372036854775807 ((ls.map recC.enc).take k) (numsS 9223372036854775807 (some []) [(ls.length : Int)])
    have h2 := sizeT_take (ls.map recC.enc) k (by omega)
    rw [recs_getD ls k hk] at h2
    have h3 := sizeT_eq (ls.map recC.enc)
    have h5 : sumL3 (ls.map recC.enc) ≤ 100000 := hs
    have h6 : sizeT [recC.enc (ls.getD k ([], []))] = 4 + (recC.enc (ls.getD k ([], []))).length + 0 := rfl
    have h7 := HST.out
    rw [hlm] at h3
    omega)
  have HXM := Lib.hid (show ∀ k, k < ls.length → 8 + (ls.getD k ([], [])).1.length + (ls.getD k ([], [])).2.length ≤ 100000 from fun k hk => by
    have h1 := rec_mem ls (ls.getD k ([], [])) (by simp only [List.getD, List.getElem?_eq_getElem hk, Option.getD_some]; exact List.getElem_mem _)
    omega)
  have HE := Lib.hid (show itemsS 9223372036854775807 (fun st r => textS 9223372036854775807 st (recC.enc r)) (some []) ls = some (recsL ls) from by
    have := listS_room (ls.map recC.enc) (by omega) hs
    unfold listS at this
    rw [hlm] at this
    unfold itemsS
    have h := hfo ls.length (numsS 9223372036854775807 (some []) [(ls.length : Int)])
    rw [List.take_length, show (ls.map recC.enc).take ls.length = ls.map recC.enc from List.take_of_length_le (by simp)] at h
    rw [h]; exact this)
  have HN := Lib.hid hn
  obtain ⟨n, hln⟩ : ∃ n, ls.length = n := ⟨_, rfl⟩
  have HL := Lib.hid hln
  rw [hln]
  clear hp hln hn hs hz0 hbl0 hR hRlt hal hlm hfo
  go_enter_defers Try.func68, Try.ntmps68
  go_wp2_with fail
  refine CN.out.mono ?_
  rintro e w1 ⟨rfl, hpk1, hb1⟩
  have HB1 := Lib.hid hb1
  have CI := Lib.hid (itemsRec_any (g := 81) (lb := #[.pointer (some ⟨w.heap.size, 0, none⟩)]) (fun _ _ => rfl) (fun st r => textS 9223372036854775807 st (recC.enc r)) w w1 (w.heap.size + 1) (w.heap.size + 1) 9223372036854775807 (some []) ls p cap HP.out (HBW.out.trans (HB1.out.mono (by omega))) (by omega) (by have := HB1.out.size; have := HZ0.out; omega) hpk1 (by omega) (Or.inr (by simp)) (by have := HN.out; omega)
    (fun k hk w2 h1 h2 h3 => layOneR_any (ls.getD k ([], [])) R w2 _ _ _ _ _ (HC.out w2 (HB1.out.trans h2)).2 (HXM.out k hk) (HC.out w2 (HB1.out.trans h2)).1 h1 h3 (by omega) (Or.inr (HSX.out k hk))))
  rw [HE.out, HL.out] at CI
  clear hb1 hpk1 hW0 hc0
  go_wp2_with fail
  refine CI.out.mono ?_
  rintro e w2 ⟨rfl, hl2⟩
  have CP := Lib.hid (packed_any w2 (w.heap.size + 1) (w.heap.size + 1) 9223372036854775807 _ hl2.pk)
  have HB2 := Lib.hid (HB1.out.trans hl2.bl)
  clear hl2
  go_wp2_with fail
  refine CP.out.mono ?_
  intro e w5 h9
  have HR := Lib.hid (h9.of (B' := w.heap.size) (w0 := w) (by omega) (HBW.out.trans (HB2.out.mono (by omega))))
  obtain ⟨v, he, hown, hb⟩ := HR.out
  subst he
  have H5 := Lib.hid (And.intro hown hb)
  clear hown hb h9
  go_wp2_with fail
  refine leaves_cons (f := 80) (args := #[]) (by simp) (by simp [go_sem]) ?_
  refine (catch_listR _).mono ?_
  rintro e u' w'' ⟨rfl, rfl, rfl⟩
  simp [Leaves, settle, results, Try.results68, go_sem]
  exact H5.out
end Go.Proofs.Ytkidahlhnhglfaa
namespace Go.Proofs.Ytkidahlhnhglfaa
open Go.RowKit

theorem recsL_pos (ls : List RecL) : recsL ls ≠ [] := by
  intro h
  have := congrArg List.length h
  rw [recsL_len] at this
  simp at this
set_option maxHeartbeats 1000000 in
theorem packRecs_any (ls : List RecL) (p : Option Addr) (cap : Nat) (w : World) (hp : Recs w p ls) (hn : ls.length ≤ 1000) (hs : sumRec ls ≤ 100000) :
    Calls Try.prog 54 #[.slice p ls.length cap] w fun e w' => ∃ v, e = .returned (.tuple #[v, .int .i64 0]) ∧ Own w' w.heap.size 5 .u8 v (nums (recsL ls)) ∧ Below w.heap.size w w' := by
  obtain ⟨W0, hW0⟩ : ∃ W0, w.alloc (.cells #[.bool false] 4) = W0 := ⟨_, rfl⟩
  have hal : Below w.heap.size w W0 := hW0 ▸ (Below.refl _ _).alloc (Nat.le_refl _) _
  have hz0 : W0.heap.size = w.heap.size + 1 := by rw [← hW0]; simp
  have CL := Lib.hid (listR_any ls p cap w.heap.size W0 (hp.below hal) (hW0 ▸ new_block w _ _) hn hs)
  have HC := Lib.hid (show ∀ wr, Below (w.heap.size + 1) W0 wr → ∀ i, wr.cell? ⟨w.heap.size, i, none⟩ = _ from fun wr hb i => box_cells (hW0 ▸ hb) i)
  have HB := Lib.hid hal
  have HN := Lib.hid (recsL_pos ls)
  obtain ⟨Y, hY⟩ : ∃ Y, recsL ls = Y := ⟨_, rfl⟩
  rw [hY] at CL HN ⊢
  obtain ⟨n, hln⟩ : ∃ n, ls.length = n := ⟨_, rfl⟩
  rw [hln] at CL ⊢
  have hmf : ∀ (fn : Fn) (first cap : Array Value) (w : World), (Instr.makeFunc fn first cap).run Try.prog w = .ok (.func fn first cap) w := fun _ _ _ _ => rfl
  have hbk : W0.heap[w.heap.size]? = some (.cells #[.bool false] 4 (0, 0)) := hW0 ▸ new_block w _ _
  have k0 := cell_at hbk 0
  have k1 := frozen_at hbk 0
  have hss : W0.setCell ⟨w.heap.size, 0, none⟩ (.bool false) = W0 := set_same (by rw [k0]; rfl)
  clear hp hal hn hs hY hln hbk
  go_enter Try.func54, Try.ntmps54
  go_wp2_with fail
  refine CL.out.mono ?_
  rintro e w1 ⟨v, rfl, ho, hb⟩
  obtain ⟨q, d, rfl, -, -, hrow⟩ := own_row ho
  obtain ⟨b, o, rfl, -⟩ := row_some hrow HN.out
  have r0 := HC.out w1 (hz0 ▸ hb) 0
  have H1 := Lib.hid (show Own w1 w.heap.size 5 .u8 (.slice (some ⟨b, o, none⟩) (nums Y).length d) (nums Y) ∧ Below w.heap.size w w1 from ⟨by
    obtain ⟨h4, h5 | ⟨g, cap, cur, e, hg, r⟩⟩ := ho
    · exact ⟨h4, Or.inl h5⟩
    · exact ⟨h4, Or.inr ⟨g, cap, cur, e, by omega, r⟩⟩, HB.out.trans (hb.mono (by omega))⟩)
  obtain ⟨m, hm⟩ : ∃ m, (nums Y).length = m := ⟨_, rfl⟩
  rw [hm] at H1 ⊢
  clear ho hb hrow hm hW0 hz0
  have HF := Lib.hid (show ∃ v, (Ending.returned (.tuple #[.slice (some ⟨b, o, none⟩) m d, .int .i64 0]) : Ending) = .returned (.tuple #[v, .int .i64 0]) ∧ Own w1 w.heap.size 5 .u8 v (nums Y) ∧ Below w.heap.size w w1 from ⟨_, rfl, H1.out⟩)
  have hnil : ∀ w : World, (binOp .eql 25 (.slice (some ⟨b, o, none⟩) m d) (.slice none 0 0)).run Try.prog w = .ok (.bool false) w := fun _ => by kernel_rfl
  go_wp2_with fail
  go_ret2
  exact HF.out

/-- the cells of a deed in a block of its own. -/
theorem own_le {w : World} {B B' : Nat} {e : TypeId} {k : IntKind} {v : Value} {xs : List Int} (h : Own w B e k v xs) (hB : B' ≤ B) : Own w B' e k v xs := by
  obtain ⟨h4, h5 | ⟨g, cap, cur, e, hg, r⟩⟩ := h
  · exact ⟨h4, Or.inl h5⟩
  · exact ⟨h4, Or.inr ⟨g, cap, cur, e, by omega, r⟩⟩
theorem errP_some (b : List UInt8) : errP (some b) = 0 := rfl
theorem errP_none : errP none = 1 := rfl
theorem pack_bound (x : DeedL) (a : List UInt8) (ha : a.length ≤ 32768) (hn : x.ls.length ≤ 1000) (hs : sumRec x.ls ≤ 100000) (hf : x.f.length ≤ 100000) (ht : x.t.length ≤ 100000) :
    ((numsS 9223372036854775807 (some []) [x.d, x.e, x.ep]).getD []).length + sizeT [x.f, x.t, a, recsL x.ls] ≤ 1000000000000 := by
  have h1 := numsS_len 9223372036854775807 [x.d, x.e, x.ep] (some [])
  have h2 : sizeT [x.f, x.t, a, recsL x.ls] = 4 + x.f.length + (4 + x.t.length + (4 + a.length + (4 + (recsL x.ls).length + 0))) := rfl
  have h3 := recsL_len x.ls
  simp only [Option.getD_some, List.length_nil, List.length_cons] at h1
  omega

set_option maxHeartbeats 4000000 in
theorem pack_any (x : DeedL) (p : Option Addr) (cap : Nat) (w : World) (hp : Recs w p x.ls) (hn : x.ls.length ≤ 1000) (hs : sumRec x.ls ≤ 100000) (hf : x.f.length ≤ 100000) (ht : x.t.length ≤ 100000) :
    Calls Try.prog 26 #[jdV x p cap] w (RetPk w.heap.size (packS x) w) := by
  have HF := Lib.hid (show ∀ a e w', askS x.a = some a → RetPk w.heap.size (packA x a) w e w' → RetPk w.heap.size (packS x) w e w' from fun a e w' h1 h2 => by
    unfold packS; rw [h1]; exact h2)
  have HF0 := Lib.hid (show ∀ w', askS x.a = none → Below w.heap.size w w' → RetPk w.heap.size (packS x) w (.returned (.tuple #[.slice none 0 0, .int .i64 1])) w' from fun w' h1 hb => by
    unfold packS; rw [h1]; exact ⟨_, rfl, ⟨rfl, Or.inl ⟨rfl, rfl⟩⟩, hb⟩)
  have HBD := Lib.hid (fun a ha => pack_bound x a ha hn hs hf ht)
  obtain ⟨W0, hW0⟩ : ∃ W0, w.alloc (.cells (jdCells x p cap) 59) = W0 := ⟨_, rfl⟩
  have hz0 : W0.heap.size = w.heap.size + 1 := by rw [← hW0]; simp
  have HC := Lib.hid (show ∀ wr, Below (w.heap.size + 1) W0 wr → ∀ i, wr.cell? ⟨w.heap.size, i, none⟩ = _ from fun wr hb i => box_cells (hW0 ▸ hb) i)
  have HBW := Lib.hid (show Below w.heap.size w W0 by rw [← hW0]; exact (Below.refl _ _).alloc (Nat.le_refl _) _)
  have HPK := Lib.hid (show ∀ w1, Below w.heap.size w w1 → Calls Try.prog 54 #[.slice p x.ls.length cap] w1 _ from fun w1 hb => packRecs_any x.ls p cap w1 (hp.below hb) hn hs)
  have CA := Lib.hid (ask_any x.a W0)
  rw [hz0] at CA
  clear hp hn hs hf ht
  obtain ⟨d, a, er, f, t, ep, ls⟩ := x
  obtain ⟨a1, a2, a3, a4, a5, a6, a7, a8⟩ := a
  unfold jdV
  unfold askV at CA
  unfold jdCells at hW0 HC
  simp only at hW0 HC HPK CA HF HF0 HBD ⊢
  obtain ⟨n, hln⟩ : ∃ n, ls.length = n := ⟨_, rfl⟩
  rw [hln] at HPK HC hW0 ⊢
  clear hln
  obtain ⟨S, hS⟩ : ∃ S, askS ⟨a1, a2, a3, a4, a5, a6, a7, a8⟩ = S := ⟨_, rfl⟩
  rw [hS] at CA HF HF0
  have HAL := Lib.hid (fun b (h : S = some b) => askS_len (hS.trans h))
  generalize packS ⟨d, ⟨a1, a2, a3, a4, a5, a6, a7, a8⟩, er, f, t, ep, ls⟩ = R at HF HF0 ⊢
  clear hS
  have c0 := HC.out W0 (Below.refl _ _) 0
  have c1 := HC.out W0 (Below.refl _ _) 1
  have c2 := HC.out W0 (Below.refl _ _) 2
  have c3 := HC.out W0 (Below.refl _ _) 3
  have c4 := HC.out W0 (Below.refl _ _) 4
  have c5 := HC.out W0 (Below.refl _ _) 5
  have c6 := HC.out W0 (Below.refl _ _) 6
  have c7 := HC.out W0 (Below.refl _ _) 7
  have c8 := HC.out W0 (Below.refl _ _) 8
  go_enter Try.func26, Try.ntmps26
  go_wp2_with fail
  clear hW0
  refine CA.out.mono ?_
  rintro e w1 ⟨v1, rfl, ho1, hb1⟩
  have HB1 := Lib.hid hb1
  cases S with
  | none =>
    rw [errP_none]
    have HE := Lib.hid (HF0.out w1 rfl (HBW.out.trans (hb1.mono (by omega))))
    clear ho1 hb1 c0 c1 c2 c3 c4 c5 c6 c7 c8
    go_wp2_with fail
    go_ret2
    exact HE.out
  | some A =>
    rw [errP_some]
    simp only [Option.getD_some] at ho1
    have hA := HAL.out A rfl
    have c13 := HC.out w1 hb1 13
    have CP := Lib.hid (HPK.out w1 (HBW.out.trans (hb1.mono (by omega))))
    have HO1 := Lib.hid (And.intro ho1 hA)
    clear ho1 hb1 c0 c1 c2 c3 c4 c5 c6 c7 c8 hA
    go_wp2_with fail
    refine CP.out.mono ?_
    rintro e w2 ⟨v2, rfl, ho2, hb2⟩
    have HB2 := Lib.hid (HB1.out.trans (hb2.mono (by have := HB1.out.size; omega)))
    have HO2 := Lib.hid ho2
    have HO1a := Lib.hid (below_own HO1.out.1 hb2)
    have CJ := Lib.hid (jnew_any w2)
    clear ho2 hb2 c13
    go_wp2_with fail
    refine CJ.out.mono ?_
    rintro e w3 ⟨rfl, hp3, hb3⟩
    have HB3 := Lib.hid (HB2.out.trans (hb3.mono (by have := HB2.out.size; omega)))
    have e0 := HC.out w3 HB3.out 0
    have e9 := HC.out w3 HB3.out 9
    have e12 := HC.out w3 HB3.out 12
    obtain ⟨q1, d1, rfl, -, -, hr1⟩ := own_row HO1a.out
    obtain ⟨q2, d2, rfl, -, -, hr2⟩ := own_row HO2.out
    have HR := Lib.hid (And.intro hr1 hr2)
    have hal3 : Below w3.heap.size w3 (w3.alloc (.cells #[.int .i64 d, .int .i64 er, .int .i64 ep] 3)) := (Below.refl _ _).alloc (Nat.le_refl _) _
    have CN := Lib.hid (numbers_any (w3.alloc (.cells #[.int .i64 d, .int .i64 er, .int .i64 ep] 3)) w2.heap.size w2.heap.size 9223372036854775807 w3.heap.size (some []) [d, er, ep] (by simp; have := hb3.size; omega) (hp3.below hal3) (by omega) (Or.inr (by simp)) (new_block _ _ _) (by simp) : Calls Try.prog 40 #[.pointer (some ⟨w2.heap.size, 0, none⟩), .slice (some ⟨w3.heap.size, 0, none⟩) 3 3] _ _)
    have HB3a := Lib.hid (hb3.trans (hal3.mono hb3.size))
    obtain ⟨S1, hS1⟩ : ∃ S1, numsS 9223372036854775807 (some []) [d, er, ep] = S1 := ⟨_, rfl⟩
    rw [hS1] at CN
    have HBDA := Lib.hid (HBD.out A HO1.out.2)
    have HFA := Lib.hid (HF.out A)
    unfold packA at HFA
    simp only at HBDA HFA
    rw [hS1] at HBDA HFA
    rw [nums_length, nums_length]
    have v1 := run_string w2 A q1 d1 hr1
    obtain ⟨YL, hYL⟩ : ∃ Y, recsL ls = Y := ⟨_, rfl⟩
    rw [hYL] at HR HBDA HFA hr2 ⊢
    clear hp3 hb3 hal3 hS1 hr1 hr2
    go_wp2_with fail
    refine CN.out.mono ?_
    rintro e w4 ⟨rfl, hl4⟩
    have HB4 := Lib.hid (HB3a.out.trans hl4.bl)
    have HP4 := Lib.hid hl4.pk
    have f10 := HC.out w4 (HB2.out.trans (HB4.out.mono (by have := HB2.out.size; omega))) 10
    have f11 := HC.out w4 (HB2.out.trans (HB4.out.mono (by have := HB2.out.size; omega))) 11
    have v1 := run_string w4 A q1 d1 (HR.out.1.below HB4.out)
    have v2 := run_string w4 YL q2 d2 (HR.out.2.below HB4.out)
    have hal4 : Below w4.heap.size w4 (w4.alloc (.cells #[.string (strB f), .string (strB t), .string (strB A), .string (strB YL)] 9)) := (Below.refl _ _).alloc (Nat.le_refl _) _
    have CT := Lib.hid (texts_any (w4.alloc (.cells #[.string (strB f), .string (strB t), .string (strB A), .string (strB YL)] 9)) w2.heap.size w2.heap.size 9223372036854775807 w4.heap.size S1 [f, t, A, YL] (by simp; have := HB4.out.size; omega) (hl4.pk.below hal4) (by omega) (Or.inr HBDA.out) (new_block _ _ _) (by simp) : Calls Try.prog 32 #[.pointer (some ⟨w2.heap.size, 0, none⟩), .slice (some ⟨w4.heap.size, 0, none⟩) 4 4] _ _)
    have HB4a := Lib.hid (HB4.out.trans (hal4.mono HB4.out.size))
    obtain ⟨la, hla⟩ : ∃ n, A.length = n := ⟨_, rfl⟩
    obtain ⟨ly, hly⟩ : ∃ n, YL.length = n := ⟨_, rfl⟩
    rw [hla] at v1 ⊢
    rw [hly] at v2 ⊢
    clear hl4 hal4 hla hly e0 e9 e12
    go_wp2_with fail
    refine CT.out.mono ?_
    rintro e w5 ⟨rfl, hl5⟩
    have HB5 := Lib.hid (HB4a.out.trans hl5.bl)
    have CK := Lib.hid (packed_any w5 w2.heap.size w2.heap.size 9223372036854775807 _ hl5.pk)
    clear hl5 f10 f11 v1 v2
    go_wp2_with fail
    refine CK.out.mono ?_
    intro e w6 h6
    have HR6 := Lib.hid (HFA.out _ _ trivial (h6.of (B' := w.heap.size) (w0 := w) (by have := HB2.out.size; omega) ((HBW.out.trans (HB2.out.mono (by omega))).trans (HB5.out.mono (by have := HB2.out.size; omega)))))
    obtain ⟨v6, he6, -, -⟩ := h6
    subst he6
    go_wp2_with fail
    go_ret2
    exact HR6.out
end Go.Proofs.Ytkidahlhnhglfaa
namespace Go.Proofs.Ytkidahlhnhglfaa
open Go.RowKit

theorem jnOr64 (x y : Nat) (hx : x < 16777216) (hy : y ≤ 255) : bits .or .u64 ((x : Int) * 256) y = ((x * 256 + y : Nat) : Int) := by
  rw [bits_join .u64 64 (by decide) Go.wraps_u64 8 ((x : Int) * 256) y (by omega) (by omega) (by omega) (by omega) (by omega) (by omega)]
  omega

set_option maxHeartbeats 1000000 in
theorem length_any (l : List UInt8) (n : Nat) (hn : l.length = n) (h4 : 4 ≤ n) (p : Option Addr) (cap : Nat) (w : World) (hp : Row w .u8 p (nums l)) (hcap : n ≤ cap) :
    Calls Try.prog 70 #[.slice p n cap] w fun e w' => e = .returned (.int .u64 (numL (l.take 4) : Nat)) ∧ w = w' := by
  obtain ⟨b, o, rfl, hbl⟩ := row_some hp (by intro h; rw [h] at hn; simp at hn; omega)
  have HP := Lib.hid hp
  have HN := Lib.hid (And.intro hn h4)
  have h4c : (4 : Int) ≤ (cap : Int) := by omega
  clear hp hn h4
  go_enter Try.func70, Try.ntmps70
  go_wp2_with fail
  go_loop [3, 5, 9] (fun x _ i => ∃ k : Nat, k ≤ 4 ∧ i = .int .i64 k ∧ x = .int .u64 (numL (l.take k) : Nat)) (fun _ _ i => 4 - (intOf i).toNat)
  case atStart => exact ⟨0, Nat.zero_le _, rfl, rfl⟩
  case round =>
    obtain ⟨k, hk, rfl, rfl⟩ := hrel
    obtain ⟨A, hA⟩ : ∃ A, numL (l.take k) = A := ⟨_, rfl⟩
    rw [hA]
    have HA := Lib.hid hA
    clear hA
    by_cases hlt : k < 4
    · have hA3 : A < 16777216 := by rw [← HA.out]; exact pcNumL_lt3 _ (by rw [List.length_take]; omega)
      obtain ⟨b', o', hbe, _, hcell⟩ := byte_cell HP.out (Below.refl _ _) (show k < l.length by have := HN.out; omega)
      injection hbe with hbe
      injection hbe with hb1 hb2 _
      subst hb1 hb2
      obtain ⟨x, hx⟩ : ∃ x, l.getD k 0 = x := ⟨_, rfl⟩
      rw [hx] at hcell
      have HX := Lib.hid hx
      clear hx
      have hx8 : (x.toNat : Int) ≤ 255 := by have := u8_lt x; omega
      have ho := jnOr64 A x.toNat hA3 (u8_lt x)
      have hA1 : (A : Int) < 16777216 := by omega
      have hltz : (k : Int) < 4 := by omega
      clear hA3
      go_wp2_with fail
      go_round
      case rel =>
        have hs : numL (l.take (k + 1)) = A * 256 + x.toNat := by
          rw [take_snoc8 l k (by have := HN.out; omega), numL_snoc, HX.out, HA.out]
        exact ⟨k + 1, by omega, by go_num, by rw [hs]; simp⟩
      case measure => simp [intOf]; omega
    · obtain rfl : k = 4 := by omega
      have HF := Lib.hid (show ∀ w : World, (Ending.returned (.int .u64 A) : Ending) = .returned (.int .u64 (numL (l.take 4) : Nat)) ∧ w = w from fun w => ⟨by rw [HA.out], rfl⟩)
      go_wp2_with fail
      go_ret
      exact ⟨(HF.out w).1, rfl⟩

theorem shortT_step (m : Nat) (l : List UInt8) (h4 : 4 ≤ l.length) : shortT (m + 1) l = if (l.drop 4).length < numL (l.take 4) then true else shortT m ((l.drop 4).drop (numL (l.take 4))) := by
  show (if l.length < 4 then true else _) = _
  rw [if_neg (by omega)]

set_option maxHeartbeats 4000000 in
set_option maxRecDepth 100000 in
theorem short_any (l : List UInt8) (n : Nat) (hn : l.length = n) (hl : n ≤ 1000000) (p : Option Addr) (cap : Nat) (w : World) (hp : Row w .u8 p (nums l)) (hcap : n ≤ cap) :
    Calls Try.prog 56 #[.slice p n cap] w fun e w' => e = .returned (.bool (shortB l)) ∧ w = w' := by
  by_cases h12 : n < 12
  · have hE : shortB l = true := by unfold shortB; rw [if_pos (by omega)]
    rw [hE]
    have h12z : (n : Int) < 12 := by omega
    clear hp hn hE
    go_enter Try.func56, Try.ntmps56
    go_wp2_with fail
    go_ret
    exact ⟨rfl, rfl⟩
  · obtain ⟨b, o, rfl, hbl⟩ := row_some hp (by intro h; rw [h] at hn; simp at hn; omega)
    have h12z : ¬ (n : Int) < 12 := by omega
    have h12c : (12 : Int) ≤ (cap : Int) := by omega
    have h12n : (12 : Int) ≤ (n : Int) := by omega
    have hnc : (n : Int) ≤ (cap : Int) := by omega
    have hE : shortB l = shortT 4 (l.drop 12) := by unfold shortB; rw [if_neg (by omega)]
    rw [hE]
    obtain ⟨SB, hSB⟩ : ∃ SB, shortT 4 (l.drop 12) = SB := ⟨_, rfl⟩
    rw [hSB]
    have HS := Lib.hid hSB
    have HP := Lib.hid hp
    have HN := Lib.hid (And.intro hn hl)
    clear hp hn hE hSB hl
    have hst : ∃ o2, ((cap = 12 ∧ o2 = o) ∨ (cap ≠ 12 ∧ o2 = o + 12)) ∧ Row w .u8 (some ⟨b, o2, none⟩) (nums (l.drop 12)) := by
      by_cases hc : cap = 12
      · exact ⟨o, Or.inl ⟨hc, rfl⟩, Or.inl (List.eq_nil_of_length_eq_zero (by rw [nums_length, List.length_drop]; have := HN.out; omega))⟩
      · exact ⟨o + 12, Or.inr ⟨hc, rfl⟩, row_drop HP.out 12⟩
    obtain ⟨o2, hcs, hr2⟩ := hst
    have HR2 := Lib.hid (show ∀ (v : Value) (d : Nat), v = .slice (some ⟨b, o2, none⟩) (n - 12) d → n - 12 ≤ d → ∃ q r d, v = .slice q r.length d ∧ Hid (Row w .u8 q (nums r) ∧ r.length ≤ d ∧ (q = none → d = 0) ∧ r.length ≤ 1000000 ∧ shortT (4 - 0) r = SB) from fun v d hv hd => ⟨_, l.drop 12, d, by rw [hv, List.length_drop, HN.out.1], Lib.hid ⟨hr2, by rw [List.length_drop, HN.out.1]; exact hd, (fun h => nomatch h), by rw [List.length_drop]; have := HN.out; omega, HS.out⟩⟩)
    clear hr2
    rcases hcs with ⟨rfl, rfl⟩ | ⟨hc, rfl⟩
    · obtain rfl : n = 12 := by omega
      go_enter Try.func56, Try.ntmps56
      have hSB : SB = true := by
        have h1 := HS.out
        rw [List.drop_eq_nil_of_le (by rw [HN.out.1]; exact Nat.le_refl _)] at h1
        exact h1.symm
      subst hSB
      go_wp2_with fail
      go_loopw [0, 3, 9] (fun v _ i wr => i = .int .i64 0 ∧ wr = w ∧ v = .slice (some ⟨b, o2, none⟩) 0 0) (fun _ _ _ _ => 0)
      case atStart => exact ⟨rfl, rfl, rfl⟩
      case round =>
        obtain ⟨rfl, rfl, rfl⟩ := hrel
        go_wp2_with fail
        go_ret
        exact ⟨rfl, rfl⟩
    · have hcz : ¬ (cap : Int) = 12 := by omega
      go_enter Try.func56, Try.ntmps56
      go_wp2_with fail
      go_loopw [0, 3, 9] (fun v _ i wr => ∃ k : Nat, k ≤ 4 ∧ i = .int .i64 k ∧ wr = w ∧ ∃ q r d, v = .slice q r.length d ∧ Hid (Row w .u8 q (nums r) ∧ r.length ≤ d ∧ (q = none → d = 0) ∧ r.length ≤ 1000000 ∧ shortT (4 - k) r = SB)) (fun _ _ i _ => 4 - (intOf i).toNat)
      case atStart => exact ⟨0, Nat.zero_le _, rfl, rfl, HR2.out _ _ rfl (by omega)⟩
      case round =>
        obtain ⟨k, hk, rfl, rfl, q, r, d, rfl, HR⟩ := hrel
        obtain ⟨m, hm⟩ : ∃ m, r.length = m := ⟨_, rfl⟩
        rw [hm]
        have HM := Lib.hid hm
        clear hm
        by_cases hlt : k < 4
        · have hltz : (k : Int) < 4 := by omega
          obtain ⟨j, hj⟩ : ∃ j, 4 - k = j + 1 := ⟨3 - k, by omega⟩
          by_cases hm4 : m < 4
          · have hmz : (m : Int) < 4 := by omega
            have hSB : SB = true := by
              have := HR.out.2.2.2.2
              rw [hj] at this
              rw [← this]
              show (if r.length < 4 then true else _) = true
              rw [if_pos (by rw [HM.out]; exact hm4)]
            subst hSB
            go_wp2_with fail
            go_ret
            exact ⟨rfl, rfl⟩
          · have hmz : ¬ (m : Int) < 4 := by omega
            have hmz2 : (4 : Int) ≤ (m : Int) := by omega
            have hmd : (m : Int) ≤ (d : Int) := by have := HR.out.2.1; have := HM.out; omega
            have hmb : (m : Int) ≤ 1000000 := by have := HR.out.2.2.2.1; have := HM.out; omega
            have hstep := HR.out.2.2.2.2
            rw [hj, shortT_step j r (by rw [HM.out]; omega)] at hstep
            have CL := Lib.hid (length_any r m HM.out (by omega) q d wr HR.out.1 (by omega))
            obtain ⟨b, o, rfl, hbl⟩ := row_some HR.out.1 (by intro h; have := HM.out; rw [h] at this; simp at this; omega)
            obtain ⟨N, hN⟩ : ∃ N, numL (r.take 4) = N := ⟨_, rfl⟩
            have hN32 : (N : Int) < 4294967296 := by
              have := numL_lt (r.take 4) (by rw [List.length_take]; omega)
              omega
            rw [hN] at CL hstep
            rw [List.length_drop, HM.out] at hstep
            have HST := Lib.hid hstep
            clear hstep hbl hN
            go_wp2_with fail
            refine CL.out.mono ?_
            rintro e w' ⟨rfl, rfl⟩
            clear CL
            by_cases hd : d = 4
            · subst hd
              obtain rfl : m = 4 := by omega
              have hst := HST.out
              by_cases hN0 : N = 0
              · subst hN0
                have hd4 : r.drop 4 = [] := List.drop_eq_nil_of_le (by rw [HM.out]; exact Nat.le_refl _)
                rw [if_neg (by omega), hd4, List.drop_nil] at hst
                have HT := Lib.hid hst
                clear hst HST
                go_wp2_with fail
                go_roundw
                case rel => exact ⟨k + 1, by omega, by go_num, (by trivial), some ⟨b, o, none⟩, [], 0, rfl, Lib.hid ⟨Or.inl rfl, Nat.le_refl _, (fun h => nomatch h), by simp, by rw [show 4 - (k + 1) = j by omega]; exact HT.out⟩⟩
                case measure => simp [intOf]; omega
              · have hNz : (0 : Int) < (N : Int) := by omega
                have hSB : SB = true := by
                  rw [if_pos (by omega)] at hst
                  exact hst.symm
                subst hSB
                clear hst HST hNz
                obtain ⟨N', rfl⟩ : ∃ N', N = N' + 1 := ⟨N - 1, by omega⟩
                clear hN0
                go_wp2_with fail
                go_ret
                exact ⟨rfl, rfl⟩
            · have hdz : ¬ (d : Int) = 4 := by omega
              by_cases hNm : m - 4 < N
              · have hNz : (m : Int) - 4 < (N : Int) := by omega
                have hSB : SB = true := by
                  have := HST.out
                  rw [if_pos hNm] at this
                  exact this.symm
                subst hSB
                go_wp2_with fail
                go_ret
                exact ⟨rfl, rfl⟩
              · have hNz : ¬ (m : Int) - 4 < (N : Int) := by omega
                have HT := Lib.hid (show shortT j ((r.drop 4).drop N) = SB from by
                  have := HST.out
                  rwa [if_neg hNm] at this)
                have HLN := Lib.hid (show ((r.drop 4).drop N).length = m - 4 - N by rw [List.length_drop, List.length_drop, HM.out])
                have HBN := Lib.hid (And.intro hNm hmd)
                clear HST
                go_wp2_with fail
                go_roundw
                case rel =>
                  by_cases hpd : d - 4 = N
                  · have hlz : ((r.drop 4).drop N).length = 0 := by have := HLN.out; have := HBN.out; omega
                    have hnil := List.eq_nil_of_length_eq_zero hlz
                    exact ⟨k + 1, by omega, by go_num, (by trivial), some ⟨b, o + 4, none⟩, (r.drop 4).drop N, d - 4 - N, by rw [if_pos hpd, HLN.out], Lib.hid ⟨Or.inl (by rw [hnil]; rfl), by have := HLN.out; have := HBN.out; omega, (fun h => nomatch h), by rw [hlz]; omega, by rw [show 4 - (k + 1) = j by omega]; exact HT.out⟩⟩
                  · exact ⟨k + 1, by omega, by go_num, (by trivial), some ⟨b, o + 4 + N, none⟩, (r.drop 4).drop N, d - 4 - N, by rw [if_neg hpd, HLN.out], Lib.hid ⟨row_drop (row_drop HR.out.1 4) N, by have := HLN.out; have := HBN.out; omega, (fun h => nomatch h), by rw [HLN.out]; have := HR.out.2.2.2.1; have := HM.out; omega, by rw [show 4 - (k + 1) = j by omega]; exact HT.out⟩⟩
                case measure => simp [intOf]; omega
        · obtain rfl : k = 4 := by omega
          have hSB : SB = false := HR.out.2.2.2.2.symm
          subst hSB
          go_wp2_with fail
          go_ret
          exact ⟨rfl, rfl⟩
end Go.Proofs.Ytkidahlhnhglfaa
namespace Go.Proofs.Ytkidahlhnhglfaa
open Go.RowKit

/-- what a text holds wholly. -/
def decPt {α : Type} (A : Codec α) (b : List UInt8) : Except Nat (α × List UInt8) := match textC.dec b with
  | .error e => .error e
  | .ok (t, r) => match readL A t with
    | .error e => .error e
    | .ok x => .ok (x, r)
def partC {α : Type} (A : Codec α) : Codec α where
  enc x := textC.enc (A.enc x)
  ok x := A.ok x ∧ textC.ok (A.enc x)
  dec := decPt A
  rt x r h := by unfold decPt; rw [textC.rt (A.enc x) r h.2]; simp only; rw [read_enc A x h.1]
  cut x k h hk := by unfold decPt; rw [textC.cut (A.enc x) k h.2 hk]
theorem pt_seq {α : Type} (A : Codec α) (st : St) : rdR (partC A) st = match rdR textC st with
    | .error e => .error e
    | .ok r => match readL A (rdV textC [] st) with
      | .error e => .error e
      | .ok _ => .ok r := by
  cases st with
  | error e => rfl
  | ok b =>
    cases h : textC.dec b with
    | error e =>
      have h' : (partC A).dec b = .error e := by show decPt A b = _; unfold decPt; rw [h]
      rw [rdR_no h', rdR_no h]
    | ok x =>
      obtain ⟨t, r⟩ := x
      rw [rdR_ok h, rdV_ok h]
      simp only
      cases hp : readL A t with
      | error e =>
        have h' : (partC A).dec b = .error e := by show decPt A b = _; unfold decPt; rw [h]; simp only; rw [hp]
        rw [rdR_no h']
      | ok y =>
        have h' : (partC A).dec b = .ok (y, r) := by show decPt A b = _; unfold decPt; rw [h]; simp only; rw [hp]
        rw [rdR_ok h']
theorem pt_val {α : Type} (A : Codec α) (d : α) (st : St) {s : List UInt8} (hs : rdR (partC A) st = .ok s) : readL A (rdV textC [] st) = .ok (rdV (partC A) d st) := by
  cases st with
  | error e => cases hs
  | ok b =>
    cases h : textC.dec b with
    | error e =>
      have h' : (partC A).dec b = .error e := by show decPt A b = _; unfold decPt; rw [h]
      rw [rdR_no h'] at hs; cases hs
    | ok x =>
      obtain ⟨t, r⟩ := x
      rw [rdV_ok h]
      cases hp : readL A t with
      | error e =>
        have h' : (partC A).dec b = .error e := by show decPt A b = _; unfold decPt; rw [h]; simp only; rw [hp]
        rw [rdR_no h'] at hs; cases hs
      | ok y =>
        have h' : (partC A).dec b = .ok (y, r) := by show decPt A b = _; unfold decPt; rw [h]; simp only; rw [hp]
        rw [rdV_ok h']
theorem pt_short {α : Type} (A : Codec α) {b r : List UInt8} (h : rdR (partC A) (.ok b) = .ok r) : r.length + 1 ≤ b.length := by
  cases hd : textC.dec b with
  | error e =>
    have h' : (partC A).dec b = .error e := by show decPt A b = _; unfold decPt; rw [hd]
    rw [rdR_no h'] at h; cases h
  | ok x =>
    obtain ⟨t, s⟩ := x
    have := decT_len hd
    cases hp : readL A t with
    | error e =>
      have h' : (partC A).dec b = .error e := by show decPt A b = _; unfold decPt; rw [hd]; simp only; rw [hp]
      rw [rdR_no h'] at h; cases h
    | ok y =>
      have h' : (partC A).dec b = .ok (y, s) := by show decPt A b = _; unfold decPt; rw [hd]; simp only; rw [hp]
      rw [rdR_ok h'] at h
      injection h with h
      subst h; omega
theorem read_end {α : Type} (A : Codec α) (d : α) (t : List UInt8) : (∃ e, readL A t = .error e ∧ endE (rdR A (.ok t)) = e) ∨ (∃ x, readL A t = .ok x ∧ endE (rdR A (.ok t)) = 0 ∧ rdV A d (.ok t) = x) := by
  cases h : A.dec t with
  | error e => exact Or.inl ⟨e, by unfold readL; rw [h], by rw [rdR_no h]; rfl⟩
  | ok y =>
    obtain ⟨x, r⟩ := y
    cases r with
    | nil => exact Or.inr ⟨x, by unfold readL; rw [h]; rfl, by rw [rdR_ok h]; rfl, rdV_ok h⟩
    | cons c r => exact Or.inl ⟨5, by unfold readL; rw [h]; rfl, by rw [rdR_ok h]; rfl⟩
theorem noz_textJ (b : List UInt8) : textC.dec b ≠ .error 0 := by
  intro h
  have h : decT b = .error 0 := h
  unfold decT at h
  cases hn : decN b with
  | error e =>
    rw [hn] at h
    injection h with h
    unfold decN at hn
    split at hn
    · injection hn with hn; omega
    · split at hn
      · injection hn with hn; omega
      · cases hn
  | ok y =>
    obtain ⟨n, s⟩ := y
    rw [hn] at h
    simp only at h
    split at h
    · injection h with h; omega
    · cases h
theorem noz_recJ (b : List UInt8) : readL recC b ≠ .error 0 := by
  intro h
  unfold readL at h
  cases hd : recC.dec b with
  | error e =>
    rw [hd] at h
    injection h with h
    subst h
    have hd : decP textC textC b = .error 0 := hd
    unfold decP at hd
    cases h1 : textC.dec b with
    | error e => rw [h1] at hd; injection hd with hd; subst hd; exact noz_textJ b h1
    | ok y =>
      obtain ⟨x, r⟩ := y
      rw [h1] at hd
      simp only at hd
      cases h2 : textC.dec r with
      | error e => rw [h2] at hd; injection hd with hd; subst hd; exact noz_textJ r h2
      | ok z => rw [h2] at hd; cases hd
  | ok y =>
    obtain ⟨x, r⟩ := y
    rw [hd] at h
    simp only at h
    split at h
    · cases h
    · injection h with h; omega

theorem end_zeroR (l : List UInt8) (h : endE (rdR recC (.ok l)) = 0) : ∃ s, rdR recC (.ok l) = .ok s := by
  cases hd : recC.dec l with
  | error e =>
    rw [rdR_no hd] at h
    exact absurd (show readL recC l = .error 0 by unfold readL; rw [hd]; exact congrArg Except.error h) (noz_recJ l)
  | ok y => obtain ⟨x, r⟩ := y; exact ⟨r, rdR_ok hd⟩
/-- what readRecord answers. -/
def RetRJ (l : List UInt8) (w : World) (e : Ending) (w' : World) : Prop :=
  ∃ y : RecL, e = .returned (.tuple #[.agg #[.string (strB y.1), .string (strB y.2)], .int .i64 (endE (rdR recC (.ok l)))]) ∧ (endE (rdR recC (.ok l)) = 0 → y = rdV recC ([], []) (.ok l)) ∧ Below w.heap.size w w'
set_option maxHeartbeats 2000000 in
theorem readRec_any (l : List UInt8) (p : Option Addr) (cap : Nat) (w : World) (hp : Row w .u8 p (nums l)) : Calls Try.prog 58 #[.slice p l.length cap] w (RetRJ l w) := by
  obtain ⟨W0, hW0⟩ : ∃ W0, w.alloc (.cells #[.string ⟨#[]⟩, .string ⟨#[]⟩] 57) = W0 := ⟨_, rfl⟩
  have hz0 : W0.heap.size = w.heap.size + 1 := by rw [← hW0]; simp
  have hal : Below w.heap.size w W0 := hW0 ▸ (Below.refl _ _).alloc (Nat.le_refl _) _
  have hbk : W0.heap[w.heap.size]? = some (.cells #[.string ⟨#[]⟩, .string ⟨#[]⟩] 57 (0, 0)) := hW0 ▸ new_block w _ _
  have hcn := rnew_any W0 l p cap (hp.below hal)
  rw [hz0] at hcn
  have CN := Lib.hid hcn
  have CT1 := Lib.hid (fun w1 h => text_any w1 (w.heap.size + 1) (.ok l) h)
  have CT2 := Lib.hid (fun w1 h => text_any w1 (w.heap.size + 1) (rdR textC (.ok l)) h)
  have HS := rdR_pair textC textC (.ok l)
  have HF := Lib.hid (show ∀ (y : RecL) w', (endE (rdR recC (.ok l)) = 0 → y = rdV recC ([], []) (.ok l)) → Below w.heap.size w w' → RetRJ l w (.returned (.tuple #[.agg #[.string (strB y.1), .string (strB y.2)], .int .i64 (endE (rdR recC (.ok l)))])) w' from fun y w' h1 h2 => ⟨y, rfl, h1, h2⟩)
  have HV := Lib.hid (show ∀ s, rdR recC (.ok l) = .ok s → (rdV textC [] (.ok l), rdV textC [] (rdR textC (.ok l))) = rdV recC ([], []) (.ok l) from fun s hs => (rdV_pair textC textC ([], []) (.ok l) hs).symm)
  have HS2 := Lib.hid (show rdR recC (.ok l) = rdR textC (rdR textC (.ok l)) from HS)
  obtain ⟨S, hS⟩ : ∃ S, rdR recC (.ok l) = S := ⟨_, rfl⟩
  rw [hS] at HF HV HS2
  rw [← HS2.out] at CT2
  obtain ⟨S1, hS1⟩ : ∃ S, rdR textC (.ok l) = S := ⟨_, rfl⟩
  rw [hS1] at CT1 CT2 HV
  have CE := Lib.hid (fun w1 h => end_any w1 (w.heap.size + 1) S h)
  have HW := Lib.hid (And.intro hz0 (And.intro hal hbk))
  obtain ⟨x1, hx1⟩ : ∃ s, rdV textC [] (.ok l) = s := ⟨_, rfl⟩
  obtain ⟨x2, hx2⟩ : ∃ s, rdV textC [] S1 = s := ⟨_, rfl⟩
  rw [hx1] at CT1 HV
  rw [hx2] at CT2 HV
  obtain ⟨X, hX⟩ : ∃ X, rdV recC ([], []) (.ok l) = X := ⟨_, rfl⟩
  rw [hX] at HF HV
  have HX := Lib.hid hX
  obtain ⟨E, hE⟩ : ∃ E, endE S = E := ⟨_, rfl⟩
  rw [hE] at CE HF
  have HE := Lib.hid hE
  generalize RetRJ l w = R at HF ⊢
  obtain ⟨n, hn⟩ : ∃ n, l.length = n := ⟨_, rfl⟩
  rw [hn] at CN ⊢
  have HFY := Lib.hid (show E = 0 → (x1, x2) = X from fun h0 => by
    obtain ⟨s, hs⟩ := end_zeroR l (by rw [hS, hE]; exact h0)
    exact HV.out s (hS ▸ hs))
  clear hp hn hcn hz0 hal hbk hS hS1 hx1 hx2 hX hE HS
  obtain ⟨s1, hs1⟩ : ∃ s, strB x1 = s := ⟨_, rfl⟩
  obtain ⟨s2, hs2⟩ : ∃ s, strB x2 = s := ⟨_, rfl⟩
  rw [hs1] at CT1
  rw [hs2] at CT2
  have HSS := Lib.hid (And.intro hs1 hs2)
  clear hs1 hs2
  go_enter Try.func58, Try.ntmps58
  go_wp2_with fail
  clear hW0
  refine CN.out.mono ?_
  rintro e w1 ⟨rfl, hr1, hb1⟩
  have HB1 := Lib.hid hb1
  have C1 := Lib.hid (CT1.out w1 hr1)
  clear hr1 hb1
  go_wp2_with fail
  refine C1.out.mono ?_
  rintro e w2 ⟨rfl, hr2, hc2⟩
  have HC2 := Lib.hid hc2
  have C2 := Lib.hid (CT2.out w2 hr2)
  clear hr2 hc2
  go_wp2_with fail
  refine C2.out.mono ?_
  rintro e w3 ⟨rfl, hr3, hc3⟩
  have HC3 := Lib.hid (HC2.out.trans hc3)
  obtain ⟨w4, hw4⟩ : ∃ w4, w3.alloc (.cells #[.string s1, .string s2] 57) = w4 := ⟨_, rfl⟩
  have hb4 : Below w3.heap.size w3 w4 := hw4 ▸ (Below.refl _ _).alloc (Nat.le_refl _) _
  have k0 : w4.cell? ⟨w3.heap.size, 0, none⟩ = some (.string s1) := by rw [← hw4]; exact cell_at (new_block w3 _ _) 0
  have k1 : w4.cell? ⟨w3.heap.size, 1, none⟩ = some (.string s2) := by rw [← hw4]; exact cell_at (new_block w3 _ _) 1
  have C3 := Lib.hid (CE.out w4 (hr3.below hb4))
  have hbw : Below (w.heap.size + 1) W0 w4 := HB1.out.trans ((HC3.out.below (Nat.le_refl _) (by have := HC3.out.size; have := HB1.out.size; have := HW.out.1; omega)).trans (hb4.mono (by have := HC3.out.size; have := HB1.out.size; have := HW.out.1; omega)))
  have hbk4 : w4.heap[w.heap.size]? = some (.cells #[.string ⟨#[]⟩, .string ⟨#[]⟩] 57 (0, 0)) := by rw [hbw.block _ (by omega)]; exact HW.out.2.2
  have z0 := cell_at hbk4 0
  have z1 := cell_at hbk4 1
  have f0 := frozen_at hbk4 0
  have f1 := frozen_at hbk4 1
  have hlt : w.heap.size < w3.heap.size := by have := HC3.out.size; have := HB1.out.size; have := HW.out.1; omega
  have HBX := Lib.hid (show Below w.heap.size w w4 from HW.out.2.1.trans (hbw.mono (by omega)))
  have HBK4 := Lib.hid hbk4
  clear hr3 hc3 hb4 hbw hbk4
  go_wp2_with fail
  clear hw4
  refine C3.out.mono ?_
  rintro e w5 ⟨rfl, rfl⟩
  by_cases h0 : E = 0
  · subst h0
    have HXX := Lib.hid (HFY.out rfl)
    go_wp2_with fail
    refine bodyPost_ret (v := .tuple #[.agg #[.string s1, .string s2], .int .i64 0]) (by simp [results, Try.results58, go_sem, z0, z1]) rfl ?_
    rw [← HSS.out.1, ← HSS.out.2]
    exact HF.out (x1, x2) _ (fun _ => HXX.out) ((HBX.out.setCell (p := ⟨w.heap.size, 0, none⟩) (Nat.le_refl _) _).setCell (p := ⟨w.heap.size, 1, none⟩) (Nat.le_refl _) _)
  · have hEz : ((E : Int) != 0) = true := by simp; omega
    have HNZ := Lib.hid h0
    clear h0
    go_wp2_with fail
    refine bodyPost_ret (v := .tuple #[.agg #[.string ⟨#[]⟩, .string ⟨#[]⟩], .int .i64 E]) (by simp [results, Try.results58, go_sem, z0, z1]) rfl ?_
    exact HF.out ([], []) _ (fun h => absurd h HNZ.out) ((HBX.out.setCell (p := ⟨w.heap.size, 0, none⟩) (Nat.le_refl _) _).setCell (p := ⟨w.heap.size, 1, none⟩) (Nat.le_refl _) _)

/-- what ReadPart answers. -/
def RetPtR (gp : Nat) (st : St) (w : World) (e : Ending) (w' : World) : Prop :=
  ∃ y : RecL, e = .returned (.agg #[.string (strB y.1), .string (strB y.2)]) ∧ RdAt w' gp (rdR (partC recC) st) ∧ Chg gp w w' ∧ (∀ r, rdR (partC recC) st = .ok r → y = rdV (partC recC) ([], []) st)
theorem chg_rec {gp A : Nat} {w w1 : World} {a b : Value} (h : Chg gp w w1) (hA : w.heap.size ≤ A) : Chg gp w ((w1.setCell ⟨A, 0, none⟩ a).setCell ⟨A, 1, none⟩ b) :=
  ⟨h.os, h.tape, h.output, by have := h.size; simp [World.setCell] at this ⊢; omega, fun k hk hg => by
    rw [Below.heap_setCell _ _ _ _ (by show k ≠ A; omega), Below.heap_setCell _ _ _ _ (by show k ≠ A; omega)]; exact h.block k hk hg⟩
theorem rd_rec {gp A : Nat} {w1 : World} {a b : Value} {st : St} (h : RdAt w1 gp st) (hA : gp ≠ A) : RdAt ((w1.setCell ⟨A, 0, none⟩ a).setCell ⟨A, 1, none⟩ b) gp st := ⟨h.bd, by
  rw [Below.heap_setCell _ _ _ _ (by show gp ≠ A; omega), Below.heap_setCell _ _ _ _ (by show gp ≠ A; omega)]; exact h.at_⟩
set_option maxHeartbeats 4000000 in
theorem readPartR (w : World) (gp : Nat) (st : St) (h : RdAt w gp st) : Calls Try.prog 73 #[.pointer (some ⟨gp, 0, none⟩), .func (.func 58) #[] #[]] w (RetPtR gp st w) := by
  have hfn : ∀ w : World, (binOp .eql 105 (.func (.func 58) #[] #[]) .nilFunc).run Try.prog w = .ok (.bool false) w := fun _ => by kernel_rfl
  have hgl := h.lt
  obtain ⟨W2, hW2⟩ : ∃ W2, (w.alloc (.cells #[.string ⟨#[]⟩, .string ⟨#[]⟩] 57)).alloc (.cells #[.string ⟨#[]⟩, .string ⟨#[]⟩] 57) = W2 := ⟨_, rfl⟩
  have hb2 : Below w.heap.size w W2 := hW2 ▸ ((Below.refl _ _).alloc (Nat.le_refl _) _).alloc (by simp) _
  have hz2 : W2.heap.size = w.heap.size + 2 := by rw [← hW2]; simp
  have hA : W2.heap[w.heap.size]? = some (.cells #[.string ⟨#[]⟩, .string ⟨#[]⟩] 57 (0, 0)) := by
    rw [← hW2, Below.heap_alloc _ _ _ (by simp)]; exact new_block _ _ _
  have hB : W2.heap[w.heap.size + 1]? = some (.cells #[.string ⟨#[]⟩, .string ⟨#[]⟩] 57 (0, 0)) := by
    rw [← hW2]; have := new_block (w.alloc (.cells #[.string ⟨#[]⟩, .string ⟨#[]⟩] 57)) #[.string ⟨#[]⟩, .string ⟨#[]⟩] 57; rwa [World.size_alloc] at this
  have CT := Lib.hid (text_any W2 gp st (h.below hb2))
  have HPS := Lib.hid (pt_seq recC st)
  have HPV := Lib.hid (fun s hs => pt_val recC ([], []) st (s := s) hs)
  obtain ⟨t, ht⟩ : ∃ t, rdV textC [] st = t := ⟨_, rfl⟩
  obtain ⟨S1, hS1⟩ : ∃ S, rdR textC st = S := ⟨_, rfl⟩
  rw [ht, hS1] at CT HPS
  rw [ht] at HPV
  have HF := Lib.hid (show ∀ (y : RecL) w', RdAt w' gp (rdR (partC recC) st) → Chg gp w w' → (∀ s, rdR (partC recC) st = .ok s → y = rdV (partC recC) ([], []) st) → RetPtR gp st w (.returned (.agg #[.string (strB y.1), .string (strB y.2)])) w' from fun y w' h1 h2 h3 => ⟨y, rfl, h1, h2, h3⟩)
  obtain ⟨F, hF⟩ : ∃ F, rdR (partC recC) st = F := ⟨_, rfl⟩
  obtain ⟨X, hX⟩ : ∃ X, rdV (partC recC) ([], []) st = X := ⟨_, rfl⟩
  rw [hF] at HPS HPV HF
  rw [hX] at HPV HF
  generalize RetPtR gp st w = R at HF ⊢
  have HRE := Lib.hid (read_end recC ([], []) t)
  have HNZ := Lib.hid (noz_recJ t)
  have H2 := Lib.hid (And.intro hb2 (And.intro hz2 (And.intro hA hB)))
  have HW2 := Lib.hid hW2
  have HG := Lib.hid hgl
  have C1 := Lib.hid (fun l p c w1 hr => readRec_any l p c w1 hr)
  clear h hgl hb2 hz2 hA hB hW2 ht hS1 hF hX
  go_enter Try.func73, Try.ntmps73
  go_wp2_with fail
  rw [HW2.out]
  refine CT.out.mono ?_
  rintro e w3 ⟨rfl, hr3, hc3⟩
  have hA3 : w3.heap[w.heap.size]? = some (.cells #[.string ⟨#[]⟩, .string ⟨#[]⟩] 57 (0, 0)) := by rw [hc3.block _ (by rw [H2.out.2.1]; omega) (by have := HG.out; omega)]; exact H2.out.2.2.1
  have hB3 : w3.heap[w.heap.size + 1]? = some (.cells #[.string ⟨#[]⟩, .string ⟨#[]⟩] 57 (0, 0)) := by rw [hc3.block _ (by rw [H2.out.2.1]; omega) (by have := HG.out; omega)]; exact H2.out.2.2.2
  have hat := hr3.at_
  have c1 := cell_at hat 1
  have HA3 := Lib.hid hA3
  have HB3 := Lib.hid hB3
  have HR3 := Lib.hid hr3
  have HC3 := Lib.hid (show Chg gp w w3 from (Chg.of_below H2.out.1).trans hc3)
  have HS3 := Lib.hid (show w.heap.size + 2 ≤ w3.heap.size by have := hc3.size; rw [H2.out.2.1] at this; exact this)
  clear hA3 hB3 hat hr3 hc3 CT
  cases S1 with
  | error e0 =>
    have h0 := HR3.out.bd e0 rfl
    have h0z : ((e0 : Int) != 0) = true := by simp; omega
    simp only [errS] at c1
    have HFE := Lib.hid (show F = .error e0 from HPS.out)
    have n0 := cell_at HB3.out 0
    have n1 := cell_at HB3.out 1
    have k0 := cell_at HA3.out 0
    have k1 := frozen_at HA3.out 0
    have h3 := set_at HA3.out 0 (.string ⟨#[]⟩)
    have k2 := cell_at h3 1
    have k3 := frozen_at h3 1
    have h4 := set_at h3 1 (.string ⟨#[]⟩)
    have q0 := cell_at h4 0
    have q1 := cell_at h4 1
    have HP := Lib.hid (HF.out ([], []) _ (by rw [HFE.out]; exact rd_rec HR3.out (by have := HG.out; omega)) (chg_rec (a := .string ⟨#[]⟩) (b := .string ⟨#[]⟩) HC3.out (Nat.le_refl _)) (fun s hs => by rw [HFE.out] at hs; cases hs))
    clear h0 h3 h4
    go_wp2_with fail
    exact bodyPost_ret (v := .agg #[.string ⟨#[]⟩, .string ⟨#[]⟩]) (by simp [results, Try.results73, go_sem, q0, q1]) rfl HP.out
  | ok r =>
    simp only [errS] at c1
    obtain ⟨cap, w4, hcv, hcap, hrow, hb4⟩ := conv_bytes w3 t
    rw [strB_size] at hcv
    have CR := Lib.hid (C1.out t _ cap w4 hrow)
    have HR4 := Lib.hid (HR3.out.below hb4)
    have HC4 := Lib.hid (HC3.out.trans (Chg.of_below hb4))
    have HS4 := Lib.hid (Nat.le_trans HS3.out hb4.size)
    have HA4 := Lib.hid (show w4.heap[w.heap.size]? = some (.cells #[.string ⟨#[]⟩, .string ⟨#[]⟩] 57 (0, 0)) by rw [hb4.block _ (by have := HS3.out; omega)]; exact HA3.out)
    have HB4 := Lib.hid (show w4.heap[w.heap.size + 1]? = some (.cells #[.string ⟨#[]⟩, .string ⟨#[]⟩] 57 (0, 0)) by rw [hb4.block _ (by have := HS3.out; omega)]; exact HB3.out)
    clear hrow hb4 hcap
    generalize strB t = ts at hcv ⊢
    obtain ⟨tn, htn⟩ : ∃ n, t.length = n := ⟨_, rfl⟩
    rw [htn] at hcv CR
    clear htn
    obtain ⟨E, hE⟩ : ∃ E, endE (rdR recC (.ok t)) = E := ⟨_, rfl⟩
    obtain ⟨Y, hY⟩ : ∃ Y, rdV recC ([], []) (.ok t) = Y := ⟨_, rfl⟩
    rw [hE, hY] at HRE
    have HEY := Lib.hid (And.intro hE hY)
    clear hE hY
    go_wp2_with fail
    refine CR.out.mono ?_
    rintro e w5 ⟨y, he, hy, hb5⟩
    rw [HEY.out.1] at he hy
    rw [HEY.out.2] at hy
    subst he
    have HY := Lib.hid hy
    have HR5 := Lib.hid (HR4.out.below hb5)
    have HC5 := Lib.hid (HC4.out.trans (Chg.of_below hb5))
    have HS5 := Lib.hid (Nat.le_trans HS4.out hb5.size)
    have HA5 := Lib.hid (show w5.heap[w.heap.size]? = some (.cells #[.string ⟨#[]⟩, .string ⟨#[]⟩] 57 (0, 0)) by rw [hb5.block _ (by have := HS4.out; omega)]; exact HA4.out)
    have HB5 := Lib.hid (show w5.heap[w.heap.size + 1]? = some (.cells #[.string ⟨#[]⟩, .string ⟨#[]⟩] 57 (0, 0)) by rw [hb5.block _ (by have := HS4.out; omega)]; exact HB4.out)
    obtain ⟨y1, y2⟩ := y
    obtain ⟨s1, hs1⟩ : ∃ s, strB y1 = s := ⟨_, rfl⟩
    obtain ⟨s2, hs2⟩ : ∃ s, strB y2 = s := ⟨_, rfl⟩
    have HSS := Lib.hid (And.intro hs1 hs2)
    simp only
    rw [hs1, hs2]
    obtain ⟨W6, hW6⟩ : ∃ W6, w5.alloc (.cells #[.string s1, .string s2] 57) = W6 := ⟨_, rfl⟩
    have hb6 : Below w5.heap.size w5 W6 := hW6 ▸ (Below.refl _ _).alloc (Nat.le_refl _) _
    have HR6 := Lib.hid (HR5.out.below hb6)
    have HC6 := Lib.hid (HC5.out.trans (Chg.of_below hb6))
    have HA6 := Lib.hid (show W6.heap[w.heap.size]? = some (.cells #[.string ⟨#[]⟩, .string ⟨#[]⟩] 57 (0, 0)) by rw [hb6.block _ (by have := HS5.out; omega)]; exact HA5.out)
    have HB6 := Lib.hid (show W6.heap[w.heap.size + 1]? = some (.cells #[.string ⟨#[]⟩, .string ⟨#[]⟩] 57 (0, 0)) by rw [hb6.block _ (by have := HS5.out; omega)]; exact HB5.out)
    have HV6 := Lib.hid (show W6.heap[w5.heap.size]? = some (.cells #[.string s1, .string s2] 57 (0, 0)) from hW6 ▸ new_block _ _ _)
    have HS6 := Lib.hid (show w5.heap.size + 1 = W6.heap.size by rw [← hW6]; simp)
    clear hb5 hb6 hs1 hs2 hcv hy
    by_cases hE0 : E = 0
    · subst hE0
      have HFE := Lib.hid (show F = .ok r ∧ (∀ s, F = .ok s → (y1, y2) = X) from by
        have h := HPS.out
        rcases HRE.out with ⟨e, h1, h2⟩ | ⟨x, h1, -, h3⟩
        · subst h2; exact absurd h1 HNZ.out
        · rw [h1] at h
          refine ⟨h, fun s hs => ?_⟩
          have := HPV.out s hs
          rw [h1] at this
          injection this with this
          rw [← this, ← h3]
          exact HY.out rfl)
      have n0 := cell_at HV6.out 0
      have n1 := cell_at HV6.out 1
      have k0 := cell_at HA6.out 0
      have k1 := frozen_at HA6.out 0
      have h3 := set_at HA6.out 0 (.string s1)
      have k2 := cell_at h3 1
      have k3 := frozen_at h3 1
      have h4 := set_at h3 1 (.string s2)
      have q0 := cell_at h4 0
      have q1 := cell_at h4 1
      have HP := Lib.hid (HF.out (y1, y2) _ (by rw [HFE.out.1]; exact rd_rec HR6.out (by have := HG.out; omega)) (chg_rec (a := .string s1) (b := .string s2) HC6.out (Nat.le_refl _)) HFE.out.2)
      simp only at HP
      rw [HSS.out.1, HSS.out.2] at HP
      clear h3 h4
      go_wp2_with fail
      exact bodyPost_ret (v := .agg #[.string s1, .string s2]) (by simp [results, Try.results73, go_sem, q0, q1]) rfl HP.out
    · have hEz : ((E : Int) != 0) = true := by simp; omega
      have CF := Lib.hid (fail_any W6 gp _ E hE0 HR6.out)
      have HFE := Lib.hid (show F = .error E from by
        have h := HPS.out
        rcases HRE.out with ⟨e, h1, h2⟩ | ⟨x, h1, h2, -⟩
        · rw [h1] at h; rw [h2]; exact h
        · exact absurd h2 hE0)
      clear hE0
      go_wp2_with fail
      refine CF.out.mono ?_
      rintro e w7 ⟨rfl, hr7, hc7⟩
      have HA7 := Lib.hid (show w7.heap[w.heap.size]? = some (.cells #[.string ⟨#[]⟩, .string ⟨#[]⟩] 57 (0, 0)) by rw [hc7.block _ (by have := HS6.out; have := HS5.out; omega) (by have := HG.out; omega)]; exact HA6.out)
      have HB7 := Lib.hid (show w7.heap[w.heap.size + 1]? = some (.cells #[.string ⟨#[]⟩, .string ⟨#[]⟩] 57 (0, 0)) by rw [hc7.block _ (by have := HS6.out; have := HS5.out; omega) (by have := HG.out; omega)]; exact HB6.out)
      have n0 := cell_at HB7.out 0
      have n1 := cell_at HB7.out 1
      have k0 := cell_at HA7.out 0
      have k1 := frozen_at HA7.out 0
      have h3 := set_at HA7.out 0 (.string ⟨#[]⟩)
      have k2 := cell_at h3 1
      have k3 := frozen_at h3 1
      have h4 := set_at h3 1 (.string ⟨#[]⟩)
      have q0 := cell_at h4 0
      have q1 := cell_at h4 1
      have HP := Lib.hid (HF.out ([], []) _ (by rw [HFE.out]; exact rd_rec hr7 (by have := HG.out; omega)) (chg_rec (a := .string ⟨#[]⟩) (b := .string ⟨#[]⟩) (HC6.out.trans hc7) (Nat.le_refl _)) (fun s hs => by rw [HFE.out] at hs; cases hs))
      clear hr7 hc7 h3 h4
      go_wp2_with fail
      exact bodyPost_ret (v := .agg #[.string ⟨#[]⟩, .string ⟨#[]⟩]) (by simp [results, Try.results73, go_sem, q0, q1]) rfl HP.out

set_option maxHeartbeats 1000000 in
/-- ReadList's closure. -/
theorem partRec (w : World) (gp bx : Nat) (st : St) (h : RdAt w gp st) (hbx : w.heap[bx]? = some (.cells #[.func (.func 58) #[] #[]] 105 (0, 0))) : Calls Try.prog 72 #[.pointer (some ⟨gp, 0, none⟩), .pointer (some ⟨bx, 0, none⟩)] w (RetPtR gp st w) := by
  obtain ⟨W0, hW0⟩ : ∃ W0, w.alloc (.cells #[.string ⟨#[]⟩, .string ⟨#[]⟩] 57) = W0 := ⟨_, rfl⟩
  have hal : Below w.heap.size w W0 := hW0 ▸ (Below.refl _ _).alloc (Nat.le_refl _) _
  have hbk : W0.heap[w.heap.size]? = some (.cells #[.string ⟨#[]⟩, .string ⟨#[]⟩] 57 (0, 0)) := hW0 ▸ new_block w _ _
  have hz0 : w.heap.size + 1 = W0.heap.size := by rw [← hW0]; simp
  have hlt : bx < w.heap.size := (Array.getElem?_eq_some_iff.1 hbx).1
  have hcb := cell_at (show W0.heap[bx]? = _ by rw [hal.block bx hlt]; exact hbx) 0
  have C1 := Lib.hid (readPartR W0 gp st (h.below hal))
  have HA := Lib.hid (And.intro hal (And.intro hbk hz0))
  have HG := Lib.hid h.lt
  have HF := Lib.hid (show ∀ (y : RecL) w', RdAt w' gp (rdR (partC recC) st) → Chg gp w w' → (∀ s, rdR (partC recC) st = .ok s → y = rdV (partC recC) ([], []) st) → RetPtR gp st w (.returned (.agg #[.string (strB y.1), .string (strB y.2)])) w' from fun y w' h1 h2 h3 => ⟨y, rfl, h1, h2, h3⟩)
  clear h hbx hal hbk hz0 hlt
  go_enter Try.func72, Try.ntmps72
  go_wp2_with fail
  refine C1.out.mono ?_
  rintro e w2 ⟨y, rfl, h1, h2, h3⟩
  have HA2 := Lib.hid (show w2.heap[w.heap.size]? = some (.cells #[.string ⟨#[]⟩, .string ⟨#[]⟩] 57 (0, 0)) by rw [h2.block _ (by have := HA.out.2.2; omega) (by have := HG.out; omega)]; exact HA.out.2.1)
  have HP := Lib.hid (HF.out y _ (rd_rec h1 (by have := HG.out; omega)) (chg_rec (a := .string (strB y.1)) (b := .string (strB y.2)) ((Chg.of_below HA.out.1).trans h2) (Nat.le_refl _)) h3)
  clear h1 h2 h3
  generalize strB y.1 = s1 at HP ⊢
  generalize strB y.2 = s2 at HP ⊢
  have k0 := cell_at HA2.out 0
  have k1 := frozen_at HA2.out 0
  have h3 := set_at HA2.out 0 (.string s1)
  have k2 := cell_at h3 1
  have k3 := frozen_at h3 1
  have h4 := set_at h3 1 (.string s2)
  have q0 := cell_at h4 0
  have q1 := cell_at h4 1
  clear h3 h4 hW0
  go_wp2_with fail
  exact bodyPost_ret (v := .agg #[.string s1, .string s2]) (by simp [results, Try.results72, go_sem, q0, q1]) rfl HP.out
/-- what ReadItems answers at RecP. -/
def RetItRecP (w : World) (gp : Nat) (st : St) (e : Ending) (w' : World) : Prop :=
  ∃ v ys, e = .returned v ∧ OwnR w' w.heap.size v ys ∧ RdAt w' gp (rdR (Codec.list (partC recC)) st) ∧ Chg gp w w' ∧ (∀ r, rdR (Codec.list (partC recC)) st = .ok r → ys.map (fun y : RecL => y) = (rdV (Codec.list (partC recC)) [] st).map (fun y : RecL => y)) ∧ True
structure RiRecP (w : World) (gp : Nat) (F : St) (L : List RecL) (N : Nat) (v : Value) (m : Nat) (wr : World) (s : St) (ys : List RecL) : Prop where
  own : OwnR wr w.heap.size v ys
  rd : RdAt wr gp s
  ch : Chg gp w wr
  pu : ItI (partC recC) ([], []) (fun y : RecL => y) (fun y : RecL => y) F L N m s ys
  ins : True

set_option maxHeartbeats 4000000 in
theorem readItemsRecP {g : FuncId} {lb : Array Value} (eg : ∀ args w, (callFunc g args).run Try.prog w = .ok (.enter g args) w) (w : World) (gp : Nat) (st : St) (h : RdAt w gp st) (hl : (restS st).length ≤ 99999999)
    (hC : ∀ b r, rdR (partC recC) (.ok b) = .ok r → r.length + 1 ≤ b.length)
    (hone : ∀ w1 b, Chg gp w w1 → RdAt w1 gp (.ok b) → b.length ≤ (restS st).length → Calls Try.prog g (#[.pointer (some ⟨gp, 0, none⟩)] ++ lb) w1 (RetPtR gp (.ok b) w1)) :
    Calls Try.prog 47 #[.pointer (some ⟨gp, 0, none⟩), .func (.func g) #[] lb] w (RetItRecP w gp st) := by
  have hfn : ∀ w : World, (binOp .eql 90 (.func (.func g) #[] lb) .nilFunc).run Try.prog w = .ok (.bool false) w := fun _ => by kernel_rfl
  have hgl := h.lt
  have HF := Lib.hid (show ∀ v ys w', OwnR w' w.heap.size v ys → RdAt w' gp (rdR (Codec.list (partC recC)) st) → Chg gp w w' → (∀ r, rdR (Codec.list (partC recC)) st = .ok r → ys.map (fun y : RecL => y) = (rdV (Codec.list (partC recC)) [] st).map (fun y : RecL => y)) → True → RetItRecP w gp st (.returned v) w' from fun v ys w' h1 h2 h3 h4 h5 => ⟨v, ys, rfl, h1, h2, h3, h4, h5⟩)
  have CN := Lib.hid (pcNumber_any w gp st h)
  obtain ⟨n, hn⟩ : ∃ n, rdV numC 0 st = n := ⟨_, rfl⟩
  obtain ⟨S, hS1⟩ : ∃ S, rdR numC st = S := ⟨_, rfl⟩
  obtain ⟨N, hN⟩ : ∃ N, (restS st).length = N := ⟨_, rfl⟩
  have hst := ItI.start (C := (partC recC)) (d := ([], [])) (g := (fun y : RecL => y)) (h := (fun y : RecL => y)) (N := N) hn hS1 (by rw [← hS1, ← hN]; exact rest_num st)
  have hnb : n ≤ 268435455 := hn ▸ rdV_num_le st
  have HERR := Lib.hid (show ∀ e0, S = .error e0 → rdR (Codec.list (partC recC)) st = .error e0 from fun e0 he => by
    obtain ⟨h1, _⟩ := list_seq (partC recC) ([], []) st
    rw [h1, hS1, he]; exact iterR_err _ _ _)
  obtain ⟨F, hF⟩ : ∃ F, rdR (Codec.list (partC recC)) st = F := ⟨_, rfl⟩
  obtain ⟨L, hL⟩ : ∃ L, (rdV (Codec.list (partC recC)) [] st).map (fun y : RecL => y) = L := ⟨_, rfl⟩
  rw [hF, hL] at HF hst
  rw [hF] at HERR
  rw [hn, hS1] at CN
  rw [hN] at hl
  have HST := Lib.hid hst
  have HONE := Lib.hid (hN ▸ hone)
  have HC := Lib.hid hC
  have HNL := Lib.hid hl
  have HG := Lib.hid hgl
  clear h hst hF hL hN hn hS1 hone hC hl hgl
  go_enter Try.func47, Try.ntmps47
  go_wp2_with fail
  refine CN.out.mono ?_
  rintro e w1 ⟨rfl, hr1, hc1⟩
  have hat1 := hr1.at_
  have c1 := cell_at hat1 1
  clear hat1
  have HR1 := Lib.hid hr1
  have HC1 := Lib.hid hc1
  clear hr1 hc1 CN
  cases S with
  | error e0 =>
    have h0 := HR1.out.bd e0 rfl
    have h0z : ((e0 : Int) != 0) = true := by simp; omega
    simp only [errS] at c1
    have HP := Lib.hid (HF.out (.slice none 0 0) [] w1 (OwnR.nil _ _) (by rw [HERR.out e0 rfl]; exact HR1.out) HC1.out (fun r hr => by rw [HERR.out e0 rfl] at hr; cases hr) trivial)
    clear h0
    go_wp2_with fail
    go_ret
    exact HP.out
  | ok b0 =>
    simp only [errS] at c1
    have HI := Lib.hid (show RiRecP w gp F L N (.slice none 0 0) n w1 (.ok b0) [] from ⟨OwnR.nil _ _, HR1.out, HC1.out, HST.out, trivial⟩)
    clear HERR HST HR1 HC1
    go_wp2_with fail
    clear c1
    go_loopw [5, 6] (fun i v wr => ∃ (m : Nat) (s : St) (ys : List RecL), i = .int .i64 m ∧ m ≤ 268435455 ∧ Hid (RiRecP w gp F L N v m wr s ys)) (fun i _ _ => (RowKit.intOf i).toNat)
    case atStart => exact ⟨n, .ok b0, [], rfl, hnb, HI⟩
    case round =>
      obtain ⟨m, s, ys, rfl, hmb, HR⟩ := hrel
      have hat := HR.out.rd.at_
      have c1 := cell_at hat 1
      clear hat
      cases s with
      | error e0 =>
        have h0 := HR.out.rd.bd e0 rfl
        have h0z : ((e0 : Int) == 0) = false := by simp; omega
        have h0y : ((e0 : Int) != 0) = true := by simp; omega
        simp only [errS] at c1
        have HP := Lib.hid (HF.out (.slice none 0 0) [] wr (OwnR.nil _ _) (by rw [HR.out.pu.err]; exact HR.out.rd) HR.out.ch (fun r hr => by rw [HR.out.pu.err] at hr; cases hr) trivial)
        clear h0
        by_cases hm : m = 0
        · subst hm
          go_wp2_with fail
          go_ret
          exact HP.out
        · have hmz : decide ((m : Int) > 0) = true := by simp; omega
          go_wp2_with fail
          go_ret
          exact HP.out
      | ok b =>
        simp only [errS] at c1
        by_cases hm : m = 0
        · subst hm
          have HP := Lib.hid (HF.out _ ys wr HR.out.own (HR.out.pu.done.1 ▸ HR.out.rd) HR.out.ch HR.out.pu.done.2 trivial)
          obtain ⟨q, d, rfl, -⟩ := HR.out.own.row
          go_wp2_with fail
          go_ret
          exact HP.out
        · have hmz : decide ((m : Int) > 0) = true := by simp; omega
          obtain ⟨m', rfl⟩ : ∃ m', m = m' + 1 := ⟨m - 1, by omega⟩
          have C1 := Lib.hid (HONE.out wr b HR.out.ch HR.out.rd (by have := HR.out.pu.lt ⟨b, rfl⟩; have e : (restS (.ok b)).length = b.length := rfl; omega))
          obtain ⟨q, d, rfl, -⟩ := HR.out.own.row
          have hls : ys.length ≤ 99999999 := by have := HR.out.pu.lt ⟨b, rfl⟩; have := HNL.out; omega
          have hls1 : ys.length + 1 ≤ 100000001 := by omega
          have HLS := Lib.hid hls
          clear hls1 hm
          obtain ⟨k, hk⟩ : ∃ k, ys.length = k := ⟨_, rfl⟩
          have HOW := Lib.hid (hk ▸ HR.out.own)
          rw [hk]
          have HK := Lib.hid hk
          clear hk hls
          go_wp2_with fail
          refine C1.out.mono ?_
          rintro e w3 ⟨⟨t1, t2⟩, rfl, hr3, hc3, hv3⟩
          have HC3 := Lib.hid (HR.out.ch.trans hc3)
          have HR3 := Lib.hid hr3
          have HO3 := Lib.hid (OwnR.chg HOW.out hc3 HG.out)
          have HV3 := Lib.hid hv3
          have HZ := Lib.hid (show w.heap.size ≤ w3.heap.size from HC3.out.size)
          have HAL := Lib.hid (show Below w3.heap.size w3 (w3.alloc (.cells #[.string (strB t1), .string (strB t2)] 57)) from (Below.refl _ _).alloc (Nat.le_refl _) _)
          have hsz4 : w.heap.size ≤ (w3.alloc (.cells #[.string (strB t1), .string (strB t2)] 57)).heap.size := by simp; have := HZ.out; omega
          have hls4 : ys.length ≤ 1000000000000 := by have := HLS.out; omega
          have ho4 := HO3.out.alloc (.cells #[.string (strB t1), .string (strB t2)] 57)
          have x0 := cell_at (new_block w3 #[.string (strB t1), .string (strB t2)] 57) 0
          have x1 := cell_at (new_block w3 #[.string (strB t1), .string (strB t2)] 57) 1
          clear hr3 hc3 hv3
          go_wp2_with (at_builtin; refine wpList_push_rec rfl _ _ rfl w.heap.size (.slice q k d) ys rfl ho4 w3.heap.size 1 (t1, t2) rfl x0 x1 hls4 hsz4 ?_)
          intro v4 w4 hown4 hgrow
          clear ho4 x0 x1
          have HI4 := Lib.hid (show RiRecP w gp F L N v4 m' w4 (rdR (partC recC) (.ok b)) (ys ++ [(t1, t2)]) from by
            have hne : some gp ≠ (Value.slice q k d).ownBlock := fun e => by
              have := HO3.out.lt gp e.symm
              have := HG.out
              omega
            exact ⟨hown4, (HR3.out.below HAL.out).grown hgrow hne, Chg.grown hgrow (HC3.out.trans (Chg.of_below HAL.out)) (fun b hb => HO3.out.lt b hb), HR.out.pu.step (HC.out b) HV3.out, trivial⟩)
          clear hown4 hgrow
          go_wp2_with fail
          go_roundw
          case rel => exact ⟨m', _, _, by go_num, by omega, HI4⟩
          case measure => simp [RowKit.intOf]
end Go.Proofs.Ytkidahlhnhglfaa
namespace Go.Proofs.Ytkidahlhnhglfaa
open Go.RowKit

theorem catch_readR (p q : Addr) (w : World) :
    CallsD Try.prog 71 #[.pointer (some p), .pointer (some q)] .returning w fun e u' w' => e = .returned (.tuple #[]) ∧ u' = .returning ∧ w' = w := by
  refine callsD_of_wpS Try.func71 rfl fun c₀ cs hu => ?_
  apply wpS_seq
  apply wpS_region
  simp [wpOpsS, go_sem, recoverD, hu, Try.ntmps71, Exit.thenS]
  refine wpS_cond (t := false) (by simp [Act.eval, Array.replicate]) ?_
  simp only [Bool.false_eq_true, if_false]
  refine wpS_of_wp (wp_skip ?_)
  cases c₀
  simp_all [bodyPostS, results, Try.results71]
theorem leave_rlR {tmps : Array Value} {R : Ending → World → Prop} {wr : World} {A E : Nat} {v u : Value} (hA : wr.cell? ⟨A, 0, none⟩ = some v) (hE : wr.cell? ⟨E, 0, none⟩ = some u)
    (h4 : tmps.getD 4 undef = .pointer (some ⟨A, 0, none⟩)) (h5 : tmps.getD 5 undef = .pointer (some ⟨E, 0, none⟩)) (hR : R (.returned (.tuple #[v, u])) wr) :
    Leaves Try.prog Try.f57 tmps R [{ target := .fn (.func 71) #[.pointer (some ⟨A, 0, none⟩), .pointer (some ⟨E, 0, none⟩)], args := #[] }] .returning wr := by
  refine leaves_cons (f := 71) (args := #[.pointer (some ⟨A, 0, none⟩), .pointer (some ⟨E, 0, none⟩)]) (by simp) (by simp [go_sem]) ?_
  refine (catch_readR ⟨A, 0, none⟩ ⟨E, 0, none⟩ _).mono ?_
  rintro e u' w'' ⟨rfl, rfl, rfl⟩
  have h4' : tmps[4]?.getD undef = .pointer (some ⟨A, 0, none⟩) := by simpa using h4
  have h5' : tmps[5]?.getD undef = .pointer (some ⟨E, 0, none⟩) := by simpa using h5
  simp [Leaves, settle, results, Try.results57, go_sem, h4', h5', hA, hE]
  exact hR

theorem rdAt_setR {w : World} {g k o : Nat} {u : Value} {st : St} (h : RdAt w g st) (hk : k ≠ g) : RdAt (w.setCell ⟨k, o, none⟩ u) g st := ⟨h.bd, by rw [Below.heap_setCell _ _ _ _ (Ne.symm hk)]; exact h.at_⟩
theorem encR_part : ∀ ls : List RecL, encR (partC recC) ls = encR textC (ls.map recC.enc)
  | [] => rfl
  | x :: ls => by
    show textC.enc (recC.enc x) ++ encR (partC recC) ls = textC.enc (recC.enc x) ++ encR textC (ls.map recC.enc)
    rw [encR_part ls]
theorem recs_read (ls : List RecL) (hn : ls.length ≤ 1000) (hs : sumRec ls ≤ 100000) : rdR (Codec.list (partC recC)) (.ok (recsL ls)) = .ok [] ∧ rdV (Codec.list (partC recC)) [] (.ok (recsL ls)) = ls := by
  have hok : (Codec.list (partC recC)).ok ls := ⟨by omega, fun x hx => by
    have h1 := rec_mem ls x hx
    have h2 := rec_len x
    exact ⟨⟨by show x.1.length < 268435456; omega, by show x.2.length < 268435456; omega⟩, by show (recC.enc x).length < 268435456; omega⟩⟩
  have h := (Codec.list (partC recC)).rt ls [] hok
  rw [List.append_nil, show (Codec.list (partC recC)).enc ls = recsL ls from by
    show be4 ls.length ++ encR (partC recC) ls = be4 (ls.map recC.enc).length ++ encR textC (ls.map recC.enc)
    rw [encR_part, List.length_map]] at h
  exact ⟨rdR_ok h, rdV_ok h⟩
theorem OwnR.low {w : World} {B B' : Nat} {v : Value} {ls : List RecL} (h : OwnR w B v ls) (hB : B' ≤ B) : OwnR w B' v ls := by
  obtain ⟨h4, h5 | ⟨g, cap, cur, e, hg, r⟩⟩ := h
  · exact ⟨h4, Or.inl h5⟩
  · exact ⟨h4, Or.inr ⟨g, cap, cur, e, by omega, r⟩⟩

set_option maxHeartbeats 4000000 in
theorem readListR_ok (ls : List RecL) (hn : ls.length ≤ 1000) (hs : sumRec ls ≤ 100000) (b : List UInt8) (hb : b = recsL ls) (n : Nat) (hbl : b.length = n) (p : Option Addr) (cap : Nat) (w : World) (hp : Row w .u8 p (nums b)) :
    Calls Try.prog 57 #[.slice p n cap, .func (.func 58) #[] #[]] w fun e w' => ∃ v, e = .returned (.tuple #[v, .int .i64 0]) ∧ OwnR w' w.heap.size v ls ∧ Below w.heap.size w w' := by
  have hfn : ∀ w : World, (binOp .eql 105 (.func (.func 58) #[] #[]) .nilFunc).run Try.prog w = .ok (.bool false) w := fun _ => by kernel_rfl
  have hmf : ∀ (fn : Fn) (first cap : Array Value) (w : World), (Instr.makeFunc fn first cap).run Try.prog w = .ok (.func fn first cap) w := fun _ _ _ _ => rfl
  obtain ⟨v0, hv0⟩ : ∃ v0, v0 = w.alloc (.cells #[.func (.func 58) #[] #[]] 105) := ⟨_, rfl⟩
  obtain ⟨v1, hv1⟩ : ∃ v1, v1 = v0.alloc (.cells #[.slice none 0 0] 35) := ⟨_, rfl⟩
  obtain ⟨w0, hw0⟩ : ∃ w0, w0 = v1.alloc (.cells #[.int .i64 0] 28) := ⟨_, rfl⟩
  have y0 : v0.heap.size = w.heap.size + 1 := by rw [hv0]; simp
  have y1 : v1.heap.size = w.heap.size + 2 := by rw [hv1]; simp [y0]
  have z0 : w0.heap.size = w.heap.size + 3 := by rw [hw0]; simp [y1]
  have b1 : Below v0.heap.size v0 v1 := hv1 ▸ (Below.refl _ _).alloc (Nat.le_refl _) _
  have b2 : Below v1.heap.size v1 w0 := hw0 ▸ (Below.refl _ _).alloc (Nat.le_refl _) _
  have hb0 : Below w.heap.size w w0 := ((hv0 ▸ (Below.refl _ _).alloc (Nat.le_refl _) _ : Below w.heap.size w v0).trans (b1.mono (by omega))).trans (b2.mono (by omega))
  have hX0 : w0.heap[w.heap.size]? = some (.cells #[.func (.func 58) #[] #[]] 105 (0, 0)) := by
    rw [b2.block _ (by omega), b1.block _ (by omega), hv0]; exact new_block _ _ _
  have hA0 : w0.heap[w.heap.size + 1]? = some (.cells #[.slice none 0 0] 35 (0, 0)) := by
    rw [b2.block _ (by omega), hv1, ← y0]; exact new_block _ _ _
  have hE0 : w0.heap[w.heap.size + 2]? = some (.cells #[.int .i64 0] 28 (0, 0)) := by
    rw [hw0, ← y1]; exact new_block _ _ _
  have HW0 := Lib.hid (show ((w.alloc (.cells #[.func (.func 58) #[] #[]] 105)).alloc (.cells #[.slice none 0 0] 35)).alloc (.cells #[.int .i64 0] 28) = w0 by rw [hw0, hv1, hv0])
  have CR := Lib.hid (rnew_any w0 b p cap (hp.below hb0))
  rw [z0] at CR
  have H0 := Lib.hid (And.intro hb0 (And.intro hX0 (And.intro hA0 (And.intro hE0 z0))))
  have HBL := Lib.hid (show b.length ≤ 99999999 by rw [hb, recsL_len]; omega)
  obtain ⟨hx1, hx2⟩ := recs_read ls hn hs
  rw [← hb] at hx1 hx2
  have CN := Lib.hid (fun w1 h1 (h2 : ∀ w2, Chg (w.heap.size + 3) w1 w2 → w2.heap[w.heap.size]? = some (.cells #[.func (.func 58) #[] #[]] 105 (0, 0))) => readItemsRecP (g := 72) (lb := #[.pointer (some ⟨w.heap.size, 0, none⟩)]) (fun _ _ => rfl) w1 (w.heap.size + 3) (.ok b) h1 HBL.out (fun _ _ h => pt_short recC h)
    (fun w2 b2 hc hr _ => partRec w2 _ _ _ hr (h2 w2 hc)))
  have HX := Lib.hid (And.intro hx1 hx2)
  rw [hbl] at CR
  clear hp hb0 hX0 hA0 hE0 z0 hbl hn hs hb y0 y1 b1 b2 hv0 hv1 hw0 hx1 hx2
  go_enter_defers Try.func57, Try.ntmps57
  go_wp2_with fail
  rw [HW0.out]
  refine CR.out.mono ?_
  rintro e w1 ⟨rfl, hr1, hb1⟩
  have HB1 := Lib.hid (show Below (w.heap.size + 3) w0 w1 from hb1)
  have HR1 := Lib.hid hr1
  have C1 := Lib.hid (CN.out w1 hr1 (fun w2 hc => by
    rw [hc.block _ (by have := HR1.out.lt; omega) (by omega), HB1.out.block _ (by omega)]; exact H0.out.2.1))
  clear hr1 hb1
  go_wp2_with fail
  refine C1.out.mono ?_
  rintro e w2 ⟨v, ys, rfl, ho2, hr2, hc2, hv2, -⟩
  rw [HX.out.1] at hr2 hv2
  have hys : ys = ls := by
    have := hv2 [] rfl
    rw [HX.out.2] at this
    simpa using this
  subst hys
  have HZ1 := Lib.hid (show w.heap.size + 4 ≤ w1.heap.size from by have := HR1.out.lt; omega)
  have HA2 := Lib.hid (show w2.heap[w.heap.size + 1]? = some (.cells #[.slice none 0 0] 35 (0, 0)) by
    rw [hc2.block _ (by have := HZ1.out; omega) (by omega), HB1.out.block _ (by omega)]; exact H0.out.2.2.1)
  have HE2 := Lib.hid (show w2.heap[w.heap.size + 2]? = some (.cells #[.int .i64 0] 28 (0, 0)) by
    rw [hc2.block _ (by have := HZ1.out; omega) (by omega), HB1.out.block _ (by omega)]; exact H0.out.2.2.2.1)
  have HBl2 := Lib.hid (show Below w.heap.size w w2 from (H0.out.1.trans (HB1.out.mono (by omega))).trans (hc2.below (by omega) (by have := HZ1.out; omega)))
  obtain ⟨q3, d3, rfl, -⟩ := ho2.row
  have HO2 := Lib.hid ho2
  obtain ⟨n3, hn3⟩ : ∃ n, ys.length = n := ⟨_, rfl⟩
  rw [hn3] at HO2 ⊢
  have k0 := cell_at HA2.out 0
  have k1 := frozen_at HA2.out 0
  have h3 := set_at HA2.out 0 (.slice q3 n3 d3)
  have a0 := cell_at h3 0
  have a1 := frozen_at h3 0
  have e0 := cell_at (show (w2.setCell ⟨w.heap.size + 1, 0, none⟩ (.slice q3 n3 d3)).heap[w.heap.size + 2]? = some (.cells #[.int .i64 0] 28 (0, 0)) by rw [Below.heap_setCell _ _ _ _ (show w.heap.size + 2 ≠ w.heap.size + 1 by omega)]; exact HE2.out) 0
  have e1 := frozen_at (show (w2.setCell ⟨w.heap.size + 1, 0, none⟩ (.slice q3 n3 d3)).heap[w.heap.size + 2]? = some (.cells #[.int .i64 0] 28 (0, 0)) by rw [Below.heap_setCell _ _ _ _ (show w.heap.size + 2 ≠ w.heap.size + 1 by omega)]; exact HE2.out) 0
  have hr3 := rdAt_setR hr2 (k := w.heap.size + 1) (o := 0) (u := .slice q3 n3 d3) (by omega)
  have CE := Lib.hid (show Calls Try.prog 39 #[.pointer (some ⟨w.heap.size + 3, 0, none⟩)] (w2.setCell ⟨w.heap.size + 1, 0, none⟩ (.slice q3 n3 d3)) fun e w' => e = .returned (.int .i64 0) ∧ (w2.setCell ⟨w.heap.size + 1, 0, none⟩ (.slice q3 n3 d3)) = w' from end_any _ (w.heap.size + 3) (.ok []) hr3)
  obtain ⟨W3, hW3⟩ : ∃ W3, w2.setCell ⟨w.heap.size + 1, 0, none⟩ (.slice q3 n3 d3) = W3 := ⟨_, rfl⟩
  have HO3 := Lib.hid (show OwnR W3 w1.heap.size (.slice q3 n3 d3) ys from hW3 ▸ recs_set (o := 0) (u := .slice q3 n3 d3) HO2.out (by have := HZ1.out; omega))
  have HBl3 := Lib.hid (show Below w.heap.size w W3 from hW3 ▸ HBl2.out.setCell (p := ⟨w.heap.size + 1, 0, none⟩) (by show w.heap.size ≤ w.heap.size + 1; omega) _)
  rw [hW3] at CE a0 a1 e0 e1 h3
  have HW3 := Lib.hid hW3
  clear hn3 hv2 ho2 hr2 hc2 hr3 hW3
  go_wp2_with fail
  rw [HW3.out]
  refine CE.out.mono ?_
  rintro e w3 ⟨rfl, rfl⟩
  go_wp2_with fail
  refine leave_rlR (A := w.heap.size + 1) (E := w.heap.size + 2) (v := .slice q3 n3 d3) (u := .int .i64 0) (by simp [go_sem, a0]) (by simp [go_sem, e0]) rfl rfl ⟨.slice q3 n3 d3, rfl, ?_, ?_⟩
  · exact (recs_set (o := 0) (u := .int .i64 0) (recs_set (o := 0) (u := .slice q3 n3 d3) HO3.out (show w.heap.size + 1 < w1.heap.size by have := HZ1.out; omega)) (show w.heap.size + 2 < w1.heap.size by have := HZ1.out; omega)).low (by have := HZ1.out; omega)
  · exact (HBl3.out.setCell (p := ⟨w.heap.size + 1, 0, none⟩) (by show w.heap.size ≤ w.heap.size + 1; omega) _).setCell (p := ⟨w.heap.size + 2, 0, none⟩) (by show w.heap.size ≤ w.heap.size + 2; omega) _
end Go.Proofs.Ytkidahlhnhglfaa
