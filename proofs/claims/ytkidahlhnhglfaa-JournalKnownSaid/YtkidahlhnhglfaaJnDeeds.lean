/-
  Layer journal: the deeds that bytes begin with: one, and what ends them.
-/
import Derived.Test.YtkidahlhnhglfaaMgA
import Derived.Test.YtkidahlhnhglfaaSlAwake
namespace Go.Proofs.Ytkidahlhnhglfaa
open Go.RowKit

theorem info_deed : (Try.prog.info? 59).map (fun i => (i.zero, i.size, i.bytes)) = some (some (.agg #[.int .i64 0, .int .i64 0, .int .i64 0, .int .i64 0, .string ⟨#[]⟩, .string ⟨#[]⟩, .string ⟨#[]⟩, .string ⟨#[]⟩, .int .i64 0, .int .i64 0, .string ⟨#[]⟩, .string ⟨#[]⟩, .int .i64 0, .slice none 0 0]), 14, 176) := by kernel_rfl
/-- v is a row of one deed that the call owns. -/
def OneD (w : World) (B : Nat) (v : Value) (x : DeedL) (q : Option Addr) (k : Nat) : Prop :=
  ∃ g c, v = .slice (some ⟨g, 0, none⟩) 1 c ∧ B ≤ g ∧ ∃ cur : Array Value, w.heap[g]? = some (.cells cur 59 (0, 0)) ∧ ∀ (i : Nat) (u : Value), (jdCells x q k)[i]? = some u → cur[i]? = some u
theorem OneD.below {w w' : World} {B : Nat} {v : Value} {x : DeedL} {q : Option Addr} {k : Nat} (h : OneD w B v x q k) (hb : Below w.heap.size w w') : OneD w' B v x q k := by
  obtain ⟨g, c, h1, h2, cur, h3, h4⟩ := h
  exact ⟨g, c, h1, h2, cur, by rw [hb.block g (Array.getElem?_eq_some_iff.1 h3).1]; exact h3, h4⟩
theorem OneD.mono {w : World} {B B' : Nat} {v : Value} {x : DeedL} {q : Option Addr} {k : Nat} (h : OneD w B v x q k) (hB : B' ≤ B) : OneD w B' v x q k := by
  obtain ⟨g, c, h1, h2, r⟩ := h
  exact ⟨g, c, h1, by omega, r⟩
/-- append of a deed onto nothing. -/
theorem wpList_push_deed {w : World} {ops : Array Oper} {rest : List Oper} {o : Oper} {a : Act} {Q : Exit → Act → World → Prop}
    (hg : o.guard = none) (s x : Operand) (hop : o.op = Op.call { callee := Callee.builtin Builtin.append, args := #[s, x], argTypes := #[64, 64] })
    (B : Nat) (hs : a.eval s = .slice none 0 0) (G c : Nat) (y : DeedL) (q : Option Addr) (k : Nat) (hx : a.eval x = .slice (some ⟨G, 0, none⟩) 1 c) (hc : ∀ (i : Nat) (u : Value), (jdCells y q k)[i]? = some u → w.cell? ⟨G, i, none⟩ = some u)
    (hB : B ≤ w.heap.size)
    (hK : ∀ v' w', OneD w' B v' y q k → Below w.heap.size w w' → wpList Try.prog ops Q rest (a.put o.dst v') w') :
    wpList Try.prog ops Q (o :: rest) a w := by
  obtain ⟨i0, hi, hz0, hz1, hz2⟩ := info_parts info_deed
  refine wpList_append_own w hg s x 64 hop B 59 i0 _ 14 176 Try.underlying64 hi hz0 hz1 hz2 rfl (by decide) (.slice none 0 0) 0 [] hs (World.ownsRow_nil w B _ 14) ⟨G, 0, none⟩ 1 c (jdCells y q k).toList hx (by rfl) ?_ ?_ (by unfold maxLen; omega) (by omega) hB ?_
  · intro j u hj
    rw [Addr.add_lit, Nat.zero_add]
    exact hc j u (by rw [← Array.getElem?_toList]; exact hj)
  · intro u hu
    simp only [jdCells, List.mem_cons, List.not_mem_nil, or_false] at hu
    rcases hu with rfl | rfl | rfl | rfl | rfl | rfl | rfl | rfl | rfl | rfl | rfl | rfl | rfl | rfl <;> rfl
  · intro v' w' ho hgr _
    refine hK v' w' ?_ ⟨hgr.os, hgr.tape, hgr.output, hgr.size, fun i hi => hgr.block i hi (by simp [Value.ownBlock])⟩
    obtain ⟨h1, ⟨rfl, h0⟩ | ⟨g, cap, cur, rfl, hg2, hh, hc2, hm, hs2, ht⟩⟩ := ho
    · exact absurd h0 (by decide)
    · refine ⟨g, cap, rfl, hg2, cur, hh, fun i u hu => ?_⟩
      have hi14 : i < 14 := by
        have := (Array.getElem?_eq_some_iff.1 hu).1
        simpa [jdCells] using this
      have e : cur[i]? = (jdCells y q k).toList[i]? := by
        have : (cur.toList.take ((0 + 1) * 14))[i]? = ([] ++ (jdCells y q k).toList)[i]? := by rw [ht]
        rw [List.getElem?_take, if_pos (by omega), Array.getElem?_toList, List.nil_append] at this
        exact this
      rw [e, Array.getElem?_toList]; exact hu

theorem ownLe {w : World} {B B' : Nat} {v : Value} {ls : List RecL} (h : OwnR w B v ls) (hB : B' ≤ B) : OwnR w B' v ls := by
  obtain ⟨h4, h5 | ⟨g, cap, cur, e, hg, r⟩⟩ := h
  · exact ⟨h4, Or.inl h5⟩
  · exact ⟨h4, Or.inr ⟨g, cap, cur, e, by omega, r⟩⟩
theorem u8_seven : (((7 : UInt8).toNat : Nat) : Int) = 7 := by decide
/-- what Read says of Y. -/
def Fits (x : DeedL) (Y : List UInt8) : Prop := ∀ p cap w, Row w .u8 p (nums Y) → Y.length ≤ cap →
  Calls Try.prog 27 #[.slice p Y.length cap] w fun e w' => ∃ q k, e = .returned (.tuple #[jdV x q k, .int .i64 0]) ∧ OwnR w' w.heap.size (.slice q x.ls.length k) x.ls ∧ Below w.heap.size w w'
/-- what deeds answers. -/
def RetDs (x : DeedL) (U : Nat) (w : World) (e : Ending) (w' : World) : Prop :=
  ∃ v q k, e = .returned (.tuple #[v, .int .i64 (U : Nat)]) ∧ OneD w' w.heap.size v x q k ∧ OwnR w' w.heap.size (.slice q x.ls.length k) x.ls ∧ Below w.heap.size w w'

set_option maxHeartbeats 8000000 in
theorem deeds_one (x : DeedL) (Y rest : List UInt8) (hf : Fits x Y) (hY : Y.length ≤ 32768) (hst : errL rest ≠ 0 ∨ kindL rest ≠ 7) (hr : rest.length ≤ 500000) (n : Nat) (hn : n = 7 + Y.length + rest.length) (p : Option Addr) (cap : Nat) (w : World) (hp : Row w .u8 p (nums (frameL 7 Y ++ rest))) (hcap : n ≤ cap) :
    Calls Try.prog 52 #[.slice p n cap] w (RetDs x (7 + Y.length) w) := by
  have hlen : (frameL 7 Y ++ rest).length = n := by rw [List.length_append, frameL_length, hn]
  obtain ⟨b, o, rfl, hbl⟩ := row_some hp (by intro h; rw [h] at hlen; simp at hlen; omega)
  have CO := Lib.hid (open_frame 7 Y rest hY (by omega) n hn (some ⟨b, o, none⟩) cap w hp hcap)
  have HF := Lib.hid hf
  have HDR := Lib.hid (show (frameL 7 Y ++ rest).drop (7 + Y.length) = rest by rw [← frameL_length 7 Y, List.drop_left])
  have CO2 := Lib.hid (show ∀ o2 w1 d, Row w1 .u8 (some ⟨b, o2, none⟩) (nums rest) → rest.length ≤ d → Calls Try.prog 66 #[.slice (some ⟨b, o2, none⟩) rest.length d] w1 (RetOp w1 rest) from fun o2 w1 d h1 h2 => open_any rest (by omega) _ d w1 h1 h2)
  have HP := Lib.hid hp
  have HST := Lib.hid hst
  obtain ⟨U, hU⟩ : ∃ U, Y.length = U := ⟨_, rfl⟩
  obtain ⟨R, hR⟩ : ∃ R, rest.length = R := ⟨_, rfl⟩
  rw [hU] at hY hn CO HDR ⊢
  rw [hR] at hr hn CO2
  have HU := Lib.hid hU
  have HR := Lib.hid hR
  have hcz : (n : Int) ≤ (cap : Int) := by omega
  have hnz : (n : Int) ≤ 1000000 := by omega
  have hun : (7 + (U : Int)) ≤ (n : Int) := by omega
  have hc0 : ¬ cap = 0 := by omega
  have HN := Lib.hid hn
  clear hp hf hst hU hR hlen hn
  go_enter Try.func52, Try.ntmps52
  go_wp2_with fail
  go_loopw [4, 5, 6, 7, 8, 9, 10] (fun vl vu _ _ _ _ _ wr => (vl = .slice none 0 0 ∧ vu = .int .i64 0 ∧ wr = w) ∨ (∃ q k, vu = .int .i64 (7 + U : Nat) ∧ Hid (OneD wr w.heap.size vl x q k ∧ OwnR wr w.heap.size (.slice q x.ls.length k) x.ls ∧ Below w.heap.size w wr))) (fun _ vu _ _ _ _ _ _ => 1 - (intOf vu).toNat)
  case atStart => exact Or.inl ⟨rfl, rfl, rfl⟩
  case round =>
    rcases hrel with ⟨rfl, rfl, rfl⟩ | ⟨q, k, rfl, HI⟩
    · go_wp2_with fail
      refine CO.out.mono ?_
      rintro e w1 ⟨v, rfl, ho1, hb1⟩
      obtain ⟨q1, d1, rfl, hd1, -, hr1⟩ := own_row ho1
      rw [nums_length, HU.out]
      rw [nums_length, HU.out] at hd1
      rw [u8_seven]
      have CR := Lib.hid (HF.out q1 d1 w1 hr1 (by rw [HU.out]; exact hd1))
      rw [HU.out] at CR
      have HB1 := Lib.hid hb1
      clear ho1 hb1 hr1 hd1
      go_wp2_with fail
      refine CR.out.mono ?_
      rintro e w2 ⟨q2, k2, rfl, hrc, hb2⟩
      have HB2 := Lib.hid (HB1.out.trans (hb2.mono HB1.out.size))
      have HRC := Lib.hid (ownLe hrc HB1.out.size)
      obtain ⟨w3, hw3⟩ : ∃ w3, w2.alloc (.cells (jdCells x q2 k2) 59) = w3 := ⟨_, rfl⟩
      have hb3 : Below w2.heap.size w2 w3 := hw3 ▸ (Below.refl _ _).alloc (Nat.le_refl _) _
      have hd3 : w3.heap[w2.heap.size]? = some (.cells (jdCells x q2 k2) 59 (0, 0)) := hw3 ▸ new_block w2 _ _
      have d3 := cell_at hd3
      have hb4 : Below w3.heap.size w3 (w3.alloc (.cells (jdCells x q2 k2) 59)) := (Below.refl _ _).alloc (Nat.le_refl _) _
      have hx4 : ∀ (i : Nat) (u : Value), (jdCells x q2 k2)[i]? = some u → (w3.alloc (.cells (jdCells x q2 k2) 59)).cell? ⟨w3.heap.size, i, none⟩ = some u := fun i u h => by rw [cell_at (new_block w3 _ _) i]; exact h
      have HB3 := Lib.hid (HB2.out.trans (hb3.mono HB2.out.size))
      have HB4 := Lib.hid (HB3.out.trans (hb4.mono HB3.out.size))
      have HX4 := Lib.hid hx4
      have HRC4 := Lib.hid (show OwnR (w3.alloc (.cells (jdCells x q2 k2) 59)) wr.heap.size (.slice q2 x.ls.length k2) x.ls from OwnR.below (OwnR.below HRC.out hb3) hb4)
      clear hrc hb2 hb3 hd3 hb4 hx4 CR
      unfold jdCells at hw3 d3 HB4 HX4 HRC4
      unfold jdV
      go_wp2_with (at_builtin; refine wpList_push_deed rfl _ _ rfl wr.heap.size rfl w3.heap.size 1 x q2 k2 rfl HX4.out HB4.out.size ?_)
      clear hw3 d3
      intro v4 w4 ho4 hb4
      have HB5 := Lib.hid (HB4.out.trans (hb4.mono (by have := HB4.out.size; simp at this ⊢; omega)))
      have HI := Lib.hid (show OneD w4 wr.heap.size v4 x q2 k2 ∧ OwnR w4 wr.heap.size (.slice q2 x.ls.length k2) x.ls ∧ Below wr.heap.size wr w4 from ⟨ho4, OwnR.below HRC4.out (by simpa using hb4), HB5.out⟩)
      obtain ⟨g4, c4, rfl, -⟩ := ho4
      clear hb4
      go_wp2_with fail
      go_roundw
      case rel => exact Or.inr ⟨q2, k2, by go_num, HI⟩
      case measure => simp [intOf]; omega
    · obtain ⟨g, c, rfl, -⟩ := id HI.out.1
      have hul : (7 + (U : Int)) ≤ (n : Int) := hun
      by_cases hcu : cap = 7 + U
      · obtain rfl : n = 7 + U := by have := HN.out; omega
        have hR0 : R = 0 := by have := HN.out; omega
        have hnil : rest = [] := List.eq_nil_of_length_eq_zero (by rw [HR.out, hR0])
        subst hcu
        have C1 := Lib.hid (CO2.out o wr 0 (Or.inl (by rw [hnil]; rfl)) (by omega))
        rw [hR0] at C1
        clear hR0 hnil
        go_wp2_with fail
        refine C1.out.mono ?_
        rintro e w1 ⟨hb1, ⟨he, rfl⟩ | ⟨he, v, rfl, _⟩⟩
        · obtain ⟨E, hE⟩ : ∃ E, errL rest = E := ⟨_, rfl⟩
          rw [hE] at he ⊢
          have hez : ((E : Int) != 0) = true := by simp; omega
          have HF1 := Lib.hid (show RetDs x (7 + U) w (.returned (.tuple #[.slice (some ⟨g, 0, none⟩) 1 c, .int .i64 (7 + (U : Int))])) w1 from ⟨_, q, k, by rw [show ((7 + U : Nat) : Int) = 7 + (U : Int) by omega], HI.out.1.below hb1, OwnR.below HI.out.2.1 hb1, HI.out.2.2.trans (hb1.mono HI.out.2.2.size)⟩)
          clear hb1 he hE
          go_wp2_with fail
          go_ret2
          exact HF1.out
        · have hk7 : kindL rest ≠ 7 := by
            rcases HST.out with h | h
            · exact absurd he h
            · exact h
          obtain ⟨K, hK⟩ : ∃ K, kindL rest = K := ⟨_, rfl⟩
          rw [hK] at hk7 ⊢
          have hkz : ((K.toNat : Int) != 7) = true := by
            simp only [bne_iff_ne, ne_eq]
            intro h
            exact hk7 (UInt8.toNat_inj.1 (by show K.toNat = 7; omega))
          have HF1 := Lib.hid (show RetDs x (7 + U) w (.returned (.tuple #[.slice (some ⟨g, 0, none⟩) 1 c, .int .i64 (7 + (U : Int))])) w1 from ⟨_, q, k, by rw [show ((7 + U : Nat) : Int) = 7 + (U : Int) by omega], HI.out.1.below hb1, OwnR.below HI.out.2.1 hb1, HI.out.2.2.trans (hb1.mono HI.out.2.2.size)⟩)
          clear hb1 he hK hk7
          go_wp2_with fail
          go_ret2
          exact HF1.out
      · have hcuz : ¬ (cap : Int) = 7 + (U : Int) := by omega
        have hru : n - (7 + U) = R := by have := HN.out; omega
        have C1 := Lib.hid (CO2.out (o + (7 + U)) wr (cap - (7 + U)) (by have := row_drop (HP.out.below HI.out.2.2) (7 + U); rwa [HDR.out] at this) (by have := HN.out; omega))
        rw [← hru] at C1
        have HRU := Lib.hid hru
        clear hru
        go_wp2_with fail
        refine C1.out.mono ?_
        rintro e w1 ⟨hb1, ⟨he, rfl⟩ | ⟨he, v, rfl, _⟩⟩
        · obtain ⟨E, hE⟩ : ∃ E, errL rest = E := ⟨_, rfl⟩
          rw [hE] at he ⊢
          have hez : ((E : Int) != 0) = true := by simp; omega
          have HF1 := Lib.hid (show RetDs x (7 + U) w (.returned (.tuple #[.slice (some ⟨g, 0, none⟩) 1 c, .int .i64 (7 + (U : Int))])) w1 from ⟨_, q, k, by rw [show ((7 + U : Nat) : Int) = 7 + (U : Int) by omega], HI.out.1.below hb1, OwnR.below HI.out.2.1 hb1, HI.out.2.2.trans (hb1.mono HI.out.2.2.size)⟩)
          clear hb1 he hE
          go_wp2_with fail
          go_ret2
          exact HF1.out
        · have hk7 : kindL rest ≠ 7 := by
            rcases HST.out with h | h
            · exact absurd he h
            · exact h
          obtain ⟨K, hK⟩ : ∃ K, kindL rest = K := ⟨_, rfl⟩
          rw [hK] at hk7 ⊢
          have hkz : ((K.toNat : Int) != 7) = true := by
            simp only [bne_iff_ne, ne_eq]
            intro h
            exact hk7 (UInt8.toNat_inj.1 (by show K.toNat = 7; omega))
          have HF1 := Lib.hid (show RetDs x (7 + U) w (.returned (.tuple #[.slice (some ⟨g, 0, none⟩) 1 c, .int .i64 (7 + (U : Int))])) w1 from ⟨_, q, k, by rw [show ((7 + U : Nat) : Int) = 7 + (U : Int) by omega], HI.out.1.below hb1, OwnR.below HI.out.2.1 hb1, HI.out.2.2.trans (hb1.mono HI.out.2.2.size)⟩)
          clear hb1 he hK hk7
          go_wp2_with fail
          go_ret2
          exact HF1.out
end Go.Proofs.Ytkidahlhnhglfaa
