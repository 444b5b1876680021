/-
  Layer once, the reference: where a client is.
-/
import Derived.Test.YtjlkfoaccllflaaOnMem
import Derived.LoopTactic
import Derived.Deep.CutRange
import Derived.Deep.QuietTactic
import Derived.BigQuiet
namespace Go.Proofs.Ytjlkfoaccllflaa
open Go.RowKit Go.Gz

/-- the reference's table at block O. -/
structure OnAt (w : World) (B O : Nat) (v : Value) (L : List Ent) : Prop where
  c : w.heap[O]? = some (.cells #[v] 28 (0, 0))
  b : B ≤ O
  own : OwnE w B 39 v L
  ord : OrdK ck L
namespace OnAt
variable {w w' : World} {B O : Nat} {v : Value} {L : List Ent}
theorem lt (h : OnAt w B O v L) : O < w.heap.size := (Array.getElem?_eq_some_iff.1 h.c).1
theorem hB (h : OnAt w B O v L) : B ≤ w.heap.size := by have := h.lt; have := h.b; omega
theorem ne (h : OnAt w B O v L) : v.ownBlock ≠ some O := fun e => by
  obtain ⟨cs, fz, hh⟩ := h.own.type O e
  rw [h.c] at hh
  injection hh with hh
  injection hh with _ hh _
  cases hh
theorem kept {F : Nat → Prop} (h : OnAt w B O v L) (hk : Kept F w w') (hF : ∀ k, k = O ∨ v.ownBlock = some k → ¬ F k) : OnAt w' B O v L :=
  ⟨(hk.block O h.lt (hF O (Or.inl rfl))).trans h.c, h.b, h.own.kept hk fun g hg => hF g (Or.inr hg), h.ord⟩
theorem below (h : OnAt w B O v L) (hb : Below w.heap.size w w') : OnAt w' B O v L := h.kept (F := fun _ => False) (Kept.of_below hb) fun _ _ e => e
theorem drewN (h : OnAt w B O v L) (n : Nat) : OnAt (w.drewN n) B O v L := ⟨h.c, h.b, h.own.drewN n, h.ord⟩
end OnAt
def RetAt (w : World) (L : List Ent) (c : Int) (e : Ending) (w' : World) : Prop := ∃ k : Nat, e = .returned (.tuple #[.int .i64 k, .bool (decide (k < L.length ∧ ck (L.getD k default) = c))]) ∧ IdxAt ck L c k ∧ ∃ n, w' = w.drewN n

set_option maxHeartbeats 4000000 in
set_option maxRecDepth 100000 in
theorem at_any (w : World) (B O : Nat) (v : Value) (L : List Ent) (h : OnAt w B O v L) (hL : L.length ≤ 100000) (c : Int) :
    Calls Try.prog 19 #[.pointer (some ⟨O, 0, none⟩), .int .i64 c] w (RetAt w L c) := by
  obtain ⟨n, hN⟩ : ∃ n, L.length = n := ⟨_, rfl⟩
  obtain ⟨p, d, rfl, hd, -, hrow, -⟩ := h.own.row
  have hc0 := cell_at h.c 0
  rw [hN] at hc0
  have HN := Lib.hid hN
  have HR := Lib.hid hrow
  have HC := Lib.hid hc0
  have hnb : (n : Int) ≤ 100000 := by omega
  have HF := Lib.hid (show ∀ (k : Nat) (f : Bool) (m : Nat), f = decide (k < L.length ∧ ck (L.getD k default) = c) → IdxAt ck L c k → RetAt w L c (.returned (.tuple #[.int .i64 k, .bool f])) (w.drewN m) from fun k f m hf hi => ⟨k, by rw [hf], hi, m, rfl⟩)
  clear hN hrow hd h hL
  go_enter Try.func19, Try.ntmps19
  go_wp2_with fail
  go_loopw [6] (fun i wr => ∃ k : Nat, i = .int .i64 k ∧ k ≤ n ∧ (∀ j, j < k → ck (L.getD j default) < c) ∧ wr = w) (fun i _ => n - (RowKit.intOf i).toNat)
  case atStart => exact ⟨0, rfl, Nat.zero_le _, by intro j hj; omega, rfl⟩
  case round =>
    obtain ⟨k, rfl, hkn, hlo, rfl⟩ := hrel
    have HLO := Lib.hid hlo
    clear hlo
    rcases Nat.lt_or_ge k n with hk | hk
    · have hkz : (k : Int) < (n : Int) := by omega
      have hpos : (0 : Int) ≤ (k : Int) := by omega
      have hkx : k < L.length := by rw [HN.out]; exact hk
      obtain ⟨pb, po, rfl, hpb, hce⟩ := ent_cells HR.out (Below.refl _ _) hkx
      have z1 := hce 1 (by decide)
      have hck : (L.getD k default).r.c = ck (L.getD k default) := rfl
      simp only [Ent.list] at z1
      have z1' : wr.cell? ⟨pb, po + k * 9 + 1, none⟩ = some (.int .i64 (ck (L.getD k default))) := z1
      obtain ⟨x, hx⟩ : ∃ x, ck (L.getD k default) = x := ⟨_, rfl⟩
      rw [hx] at z1'
      have HX := Lib.hid hx
      clear z1 hce hck hx hc0
      have hc0 := HC.out
      by_cases hlt : x < c
      · go_wp2_with fail
        exact ⟨⟨k + 1, by go_num, hk, fun j hj => by
          rcases Nat.lt_or_ge j k with h | h
          · exact HLO.out j h
          · obtain rfl : j = k := by omega
            rw [HX.out]; exact hlt, trivial⟩, by simp [RowKit.intOf]; omega⟩
      · go_upto_region 4 with fail
        go_quiet (fail)
        have HQ := Lib.hid (HF.out k (x == c) nq (by rw [HX.out]; by_cases h : x = c <;> simp [h, hkx]) ⟨by omega, HLO.out, fun _ => by rw [HX.out]; omega⟩)
        clear z1' hc0
        go_wp2_with fail
        refine bodyPost_ret (v := .tuple #[.int .i64 k,   .bool (x == c)]) (by simp [results, Try.results19, go_sem]) rfl HQ.out
    · have hkz : ¬ (k : Int) < (n : Int) := by omega
      have hkx : ¬ k < L.length := by rw [HN.out]; omega
      go_upto_region 4 with fail
      go_quiet (fail)
      have HQ := Lib.hid (HF.out k false nq (by simp [hkx]) ⟨by rw [HN.out]; omega, HLO.out, fun h => absurd h hkx⟩)
      clear hc0
      go_wp2_with fail
      refine bodyPost_ret (v := .tuple #[.int .i64 k, .bool false]) (by simp [results, Try.results19, go_sem]) rfl HQ.out
end Go.Proofs.Ytjlkfoaccllflaa
