/-
  Layer once, the law's: rows of replies; Small.
-/
import Derived.Test.YtjlkfoaccllflaaOnMem
import Derived.Test.YtjlkfoaccllflaaPcAwake
import Derived.LoopTactic
import Derived.Deep.CutRange
namespace Go.Proofs.Ytjlkfoaccllflaa
open Go.RowKit Go.Gz

/-- slice pointer p reads in w as the replies of X. -/
def RowP (w : World) (p : Option Addr) (X : List Ent) : Prop :=
  X = [] ∨ ∃ b off, p = some ⟨b, off, none⟩ ∧ b < w.heap.size ∧ ∀ j, j < X.length → ∀ i, i < 8 → w.cell? ⟨b, off + j * 8 + i, none⟩ = (X.getD j default).list[i + 1]?
theorem RowP.below {w w' : World} {p : Option Addr} {L : List Ent} (h : RowP w p L) (hb : Below w.heap.size w w') : RowP w' p L := by
  rcases h with h | ⟨b, off, hp, hlt, hc⟩
  · exact Or.inl h
  · exact Or.inr ⟨b, off, hp, Nat.lt_of_lt_of_le hlt hb.size, fun j hj i hi => by rw [hb.cell (p := ⟨b, off + j * 8 + i, none⟩) hlt]; exact hc j hj i hi⟩
theorem rep_cells {W wr : World} {p : Option Addr} {L : List Ent} (h : RowP W p L) (hb : Below W.heap.size W wr) {j : Nat} (hj : j < L.length) : ∃ b o, p = some ⟨b, o, none⟩ ∧ b < W.heap.size ∧ ∀ i, i < 8 → wr.cell? ⟨b, o + j * 8 + i, none⟩ = (L.getD j default).list[i + 1]? := by
  rcases h with h | ⟨b, o, hp, h1, h2⟩
  · rw [h] at hj; simp at hj
  · exact ⟨b, o, hp, h1, fun i hi => by rw [hb.cell (p := ⟨b, o + j * 8 + i, none⟩) h1]; exact h2 j hj i hi⟩
/-- an argument's reply. -/
structure ArgIn (w : World) (e : Ent) : Prop where
  rs : Recs w e.p e.r.ls
  lo : e.r.ls.length ≤ 9223372036854775807
  pc : e.p = none → e.k = 0
  wf : (Lit.int .i64 e.r.c).wf = true
  s : e.s = e.r.s
def RetSl (w : World) (X : List Ent) (e : Ending) (w' : World) : Prop := ∃ b, e = .returned (.bool b) ∧ (b = true → X.length ≤ 101 ∧ ∀ e ∈ X, e.r.ls.length ≤ 300) ∧ Below w.heap.size w w'

set_option maxHeartbeats 4000000 in
set_option maxRecDepth 100000 in
theorem smallL_any (w : World) (X : List Ent) (p : Option Addr) (ca : Nat) (hp : RowP w p X) (hX : ∀ e ∈ X, ArgIn w e) (hl : X.length ≤ 9223372036854775807) :
    Calls Try.prog 7 #[.slice p X.length ca] w (RetSl w X) := by
  obtain ⟨n, hN⟩ : ∃ n, X.length = n := ⟨_, rfl⟩
  have HN := Lib.hid hN
  have HR := Lib.hid hp
  have HX := Lib.hid hX
  have HL := Lib.hid hl
  have HF := Lib.hid (show ∀ b : Bool, (b = true → X.length ≤ 101 ∧ ∀ e ∈ X, e.r.ls.length ≤ 300) → ∀ w', Below w.heap.size w w' → RetSl w X (.returned (.bool b)) w' from fun b h w' hb => ⟨b, rfl, h, hb⟩)
  rw [hN]
  have hnb : (n : Int) ≤ 9223372036854775807 := by omega
  clear hN hp hX hl
  go_enter Try.func7, Try.ntmps7
  go_wp2_with fail
  go_loopw [3] (fun i wr => ∃ k : Nat, i = .int .i64 k ∧ k ≤ n ∧ k ≤ 101 ∧ Hid (∀ e ∈ X.take k, e.r.ls.length ≤ 300) ∧ Hid (Below w.heap.size w wr)) (fun i _ => n - (RowKit.intOf i).toNat)
  case atStart => exact ⟨0, rfl, Nat.zero_le _, by omega, Lib.hid (by simp), Lib.hid (Below.refl _ _)⟩
  case round =>
    obtain ⟨k, rfl, hkn, hk1, HT, HB⟩ := hrel
    rcases Nat.lt_or_ge k n with hk | hk
    · have hkz : (k : Int) < (n : Int) := by omega
      have hkx : k < X.length := by rw [HN.out]; exact hk
      obtain ⟨e, he⟩ : ∃ e, X.getD k default = e := ⟨_, rfl⟩
      have hin := HX.out e (by rw [← he]; simp [List.getD, hkx])
      obtain ⟨pb, po, rfl, hpb, hce⟩ := rep_cells HR.out HB.out hkx
      rw [he] at hce
      have HCE := Lib.hid hce
      have HTK := Lib.hid (show X.take (k + 1) = X.take k ++ [e] by
        rw [List.take_succ_eq_append_getElem hkx, ← he]
        simp [List.getD, hkx])
      have CS := Lib.hid (smallReply_any e.r e.p e.k wr hin.lo (hin.rs.below HB.out))
      unfold repV at CS
      rcases Nat.lt_or_ge 100 k with h1 | h1
      · have h1z : (100 : Int) < (k : Int) := by omega
        have h1d : decide ((100 : Int) < (k : Int)) = true := decide_eq_true h1z
        have HQ := Lib.hid (HF.out false (fun h => by (cases h)) _ HB.out)
        clear hce he hin
        go_wp2_with fail
        go_ret
        exact HQ.out
      · have h1z : ¬ (100 : Int) < (k : Int) := by omega
        obtain ⟨es, er, ep, ek⟩ := e
        have z0 := hce 0 (by decide)
        have z1 := hce 1 (by decide)
        have z2 := hce 2 (by decide)
        have z3 := hce 3 (by decide)
        have z4 := hce 4 (by decide)
        have z5 := hce 5 (by decide)
        have z6 := hce 6 (by decide)
        have z7 := hce 7 (by decide)
        simp only [Ent.list, Nat.add_zero] at z0 z1 z2 z3 z4 z5 z6 z7 HCE
        simp only at CS HTK
        clear hce he hin
        go_wp2_with (go_at_call 18; refine CS.out.mono ?_; rintro e w2 ⟨b, rfl, hb, hbl⟩; have z4' := (hbl.cell (p := ⟨pb, po + k * 8 + 4, none⟩) (by have := HB.out.size; show pb < _; omega)).trans z4; have HS := Lib.hid hb; have HB2 := Lib.hid (HB.out.trans (hbl.mono HB.out.size)); clear hb hbl; cases b)
        · go_ret
          exact HF.out false (fun h => by cases h) _ HB2.out
        · go_ret
          exact HF.out false (fun h => by cases h) _ HB2.out
        · refine ⟨⟨k + 1, by go_num, hk, by omega, Lib.hid fun e he => ?_, HB2⟩, by simp [RowKit.intOf]; omega⟩
          rw [HTK.out] at he
          rcases List.mem_append.1 he with he | he
          · exact HT.out e he
          · obtain rfl : e = ⟨es, er, ep, ek⟩ := by simpa using he
            exact HS.out (by first | rfl | trivial | assumption)
    · have hkz : ¬ (k : Int) < (n : Int) := by omega
      have hke : k = n := by omega
      have HQ := Lib.hid (HF.out true (fun _ => ⟨by rw [HN.out]; omega, by
        have := HT.out
        rwa [List.take_of_length_le (by rw [HN.out]; omega)] at this⟩) _ HB.out)
      clear hke HT HB
      go_wp2_with fail
      go_ret
      exact HQ.out
end Go.Proofs.Ytjlkfoaccllflaa
