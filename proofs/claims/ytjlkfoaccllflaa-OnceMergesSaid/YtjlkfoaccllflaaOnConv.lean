/-
  Layer once, the law's: rows of entries turned into the other type's.
-/
import Derived.Test.YtjlkfoaccllflaaOnMem
import Derived.Deep.RegionLaw
import Derived.LoopTactic
import Derived.Deep.CutRange
namespace Go.Proofs.Ytjlkfoaccllflaa
open Go.RowKit Go.Gz

structure CvI (w : World) (t : TypeId) (X : List Ent) (k : Nat) (v : Value) (wr : World) : Prop where
  own : OwnE wr w.heap.size t v (X.take k)
  bl : Below w.heap.size w wr
/-- what is answered: the same entries. -/
def RetCv (w : World) (t : TypeId) (X : List Ent) (e : Ending) (w' : World) : Prop := ∃ v, e = .returned v ∧ OwnE w' w.heap.size t v X ∧ Below w.heap.size w w'

set_option maxHeartbeats 4000000 in
set_option maxRecDepth 100000 in
theorem back_any (w : World) (X : List Ent) (p : Option Addr) (ca : Nat) (hp : RowE w p X) (hX : X.length ≤ 2000) :
    Calls Try.prog 9 #[.slice p X.length ca] w (RetCv w 39 X) := by
  obtain ⟨n, hN⟩ : ∃ n, X.length = n := ⟨_, rfl⟩
  have HN := Lib.hid hN
  have HR := Lib.hid hp
  have hnb : (n : Int) ≤ 2000 := by omega
  have HF := Lib.hid (show ∀ v w', CvI w 39 X n v w' → RetCv w 39 X (.returned v) w' from fun v w' h => ⟨v, rfl, by
    have := h.own
    rwa [List.take_of_length_le (by omega)] at this, h.bl⟩)
  rw [hN]
  clear hN hp hX
  go_enter Try.func9, Try.ntmps9
  go_wp2_with fail
  go_loopw [3, 4] (fun v i wr => ∃ k : Nat, i = .int .i64 k ∧ k ≤ n ∧ Hid (CvI w 39 X k v wr)) (fun _ i _ => n - (RowKit.intOf i).toNat)
  case atStart => exact ⟨0, rfl, Nat.zero_le _, Lib.hid ⟨OwnE.nil _ _ _, Below.refl _ _⟩⟩
  case round =>
    obtain ⟨k, rfl, hkn, HI⟩ := hrel
    rcases Nat.lt_or_ge k n with hk | hk
    · have hkz : (k : Int) < (n : Int) := by omega
      have hklt : k < X.length := by rw [HN.out]; exact hk
      obtain ⟨e, he⟩ : ∃ e, X.getD k default = e := ⟨_, rfl⟩
      obtain ⟨pb, po, rfl, hpb, hcell⟩ := ent_cells HR.out HI.out.bl hklt
      rw [he] at hcell
      have HTK := Lib.hid (show X.take (k + 1) = X.take k ++ [e] by
        rw [List.take_succ_eq_append_getElem hklt, ← he]
        simp [List.getD, hklt])
      have HLK := Lib.hid (show (X.take k).length = k by rw [List.length_take]; omega)
      obtain ⟨E, hE⟩ : ∃ E, e = E := ⟨_, rfl⟩
      rw [hE] at HTK
      obtain ⟨es, er, ep, ek⟩ := e
      have z0 := hcell 0 (by decide)
      have z1 := hcell 1 (by decide)
      have z2 := hcell 2 (by decide)
      have z3 := hcell 3 (by decide)
      have z4 := hcell 4 (by decide)
      have z5 := hcell 5 (by decide)
      have z6 := hcell 6 (by decide)
      have z7 := hcell 7 (by decide)
      have z8 := hcell 8 (by decide)
      simp only [Ent.list, Nat.add_zero] at z0 z1 z2 z3 z4 z5 z6 z7 z8
      have HON := Lib.hid (show ∀ w3 : World, RowE (w3.alloc (.cells #[.int .i64 es, .int .i64 er.c, .int .i64 er.s, .int .i64 er.e, .bool er.fd, .string (strB er.v), .slice ep er.ls.length ek, .string (strB er.nx), .bool er.mr] 39)) (some ⟨w3.heap.size, 0, none⟩) [E] from fun w3 => hE ▸ one_ent (new_block _ _ _))
      clear hcell he hE
      obtain ⟨yc, yrs, ye, yf, yv, yls, yn, ym⟩ := er
      simp only at z0 z1 z2 z3 z4 z5 z6 z7 z8 HON
      generalize strB yv = sv at z5 HON
      generalize strB yn = sx at z7 HON
      generalize yls.length = m at z6 HON
      have hpos : (0 : Int) ≤ (k : Int) := by omega
      go_upto_region 5 with fail
      go_region_law (refine step_app_ents ent_ref rfl _ _ rfl (by simp [Act.eval]) (HI.out.own.drewN 1 |>.alloc _) (some ⟨wr.heap.size, 0, none⟩) 1 [E] (by simp [Act.eval]) (HON.out wr.drew) (fun h => by cases h) (by have := HLK.out; simp only [List.length_cons, List.length_nil]; omega) (by have := HI.out.bl.size; simp; omega) ?_; intro v4 w4 hown4 hgrow4 hat4)
      all_goals
        have HQ := Lib.hid (show CvI w 39 X (k + 1) v4 w4 from ⟨by rw [HTK.out]; exact hown4, ((HI.out.bl.drew).alloc (by have := HI.out.bl.size; simpa using this) _).grown hgrow4 (by have := HI.out.bl.size; simp; omega) (fun g hg => HI.out.own.lt g hg)⟩)
        clear z0 z1 z2 z3 z4 z5 z6 z7 z8 hown4 hgrow4 hat4
        go_wp2_with fail
        exact ⟨⟨k + 1, by go_num, hk, HQ⟩, by simp [RowKit.intOf]; omega⟩
    · have hkz : ¬ (k : Int) < (n : Int) := by omega
      have hke : k = n := by omega
      have HQ := Lib.hid (HF.out _ _ (hke ▸ HI.out))
      clear hke HI
      go_wp2_with fail
      go_ret
      exact HQ.out

set_option maxHeartbeats 4000000 in
set_option maxRecDepth 100000 in
theorem made_any (w : World) (X : List Ent) (p : Option Addr) (ca : Nat) (hp : RowE w p X) (hX : X.length ≤ 2000) :
    Calls Try.prog 11 #[.slice p X.length ca] w (RetCv w 51 X) := by
  obtain ⟨n, hN⟩ : ∃ n, X.length = n := ⟨_, rfl⟩
  have HN := Lib.hid hN
  have HR := Lib.hid hp
  have hnb : (n : Int) ≤ 2000 := by omega
  have HF := Lib.hid (show ∀ v w', CvI w 51 X n v w' → RetCv w 51 X (.returned v) w' from fun v w' h => ⟨v, rfl, by
    have := h.own
    rwa [List.take_of_length_le (by omega)] at this, h.bl⟩)
  rw [hN]
  clear hN hp hX
  go_enter Try.func11, Try.ntmps11
  go_wp2_with fail
  go_loopw [3, 4] (fun v i wr => ∃ k : Nat, i = .int .i64 k ∧ k ≤ n ∧ Hid (CvI w 51 X k v wr)) (fun _ i _ => n - (RowKit.intOf i).toNat)
  case atStart => exact ⟨0, rfl, Nat.zero_le _, Lib.hid ⟨OwnE.nil _ _ _, Below.refl _ _⟩⟩
  case round =>
    obtain ⟨k, rfl, hkn, HI⟩ := hrel
    rcases Nat.lt_or_ge k n with hk | hk
    · have hkz : (k : Int) < (n : Int) := by omega
      have hklt : k < X.length := by rw [HN.out]; exact hk
      obtain ⟨e, he⟩ : ∃ e, X.getD k default = e := ⟨_, rfl⟩
      obtain ⟨pb, po, rfl, hpb, hcell⟩ := ent_cells HR.out HI.out.bl hklt
      rw [he] at hcell
      have HTK := Lib.hid (show X.take (k + 1) = X.take k ++ [e] by
        rw [List.take_succ_eq_append_getElem hklt, ← he]
        simp [List.getD, hklt])
      have HLK := Lib.hid (show (X.take k).length = k by rw [List.length_take]; omega)
      obtain ⟨E, hE⟩ : ∃ E, e = E := ⟨_, rfl⟩
      rw [hE] at HTK
      obtain ⟨es, er, ep, ek⟩ := e
      have z0 := hcell 0 (by decide)
      have z1 := hcell 1 (by decide)
      have z2 := hcell 2 (by decide)
      have z3 := hcell 3 (by decide)
      have z4 := hcell 4 (by decide)
      have z5 := hcell 5 (by decide)
      have z6 := hcell 6 (by decide)
      have z7 := hcell 7 (by decide)
      have z8 := hcell 8 (by decide)
      simp only [Ent.list, Nat.add_zero] at z0 z1 z2 z3 z4 z5 z6 z7 z8
      have HON := Lib.hid (show ∀ w3 : World, RowE (w3.alloc (.cells #[.int .i64 es, .int .i64 er.c, .int .i64 er.s, .int .i64 er.e, .bool er.fd, .string (strB er.v), .slice ep er.ls.length ek, .string (strB er.nx), .bool er.mr] 51)) (some ⟨w3.heap.size, 0, none⟩) [E] from fun w3 => hE ▸ one_ent (new_block _ _ _))
      clear hcell he hE
      obtain ⟨yc, yrs, ye, yf, yv, yls, yn, ym⟩ := er
      simp only at z0 z1 z2 z3 z4 z5 z6 z7 z8 HON
      generalize strB yv = sv at z5 HON
      generalize strB yn = sx at z7 HON
      generalize yls.length = m at z6 HON
      have hpos : (0 : Int) ≤ (k : Int) := by omega
      go_upto_region 5 with fail
      go_region_law (refine step_app_ents ent_once rfl _ _ rfl (by simp [Act.eval]) (HI.out.own.drewN 1 |>.alloc _) (some ⟨wr.heap.size, 0, none⟩) 1 [E] (by simp [Act.eval]) (HON.out wr.drew) (fun h => by cases h) (by have := HLK.out; simp only [List.length_cons, List.length_nil]; omega) (by have := HI.out.bl.size; simp; omega) ?_; intro v4 w4 hown4 hgrow4 hat4)
      all_goals
        have HQ := Lib.hid (show CvI w 51 X (k + 1) v4 w4 from ⟨by rw [HTK.out]; exact hown4, ((HI.out.bl.drew).alloc (by have := HI.out.bl.size; simpa using this) _).grown hgrow4 (by have := HI.out.bl.size; simp; omega) (fun g hg => HI.out.own.lt g hg)⟩)
        clear z0 z1 z2 z3 z4 z5 z6 z7 z8 hown4 hgrow4 hat4
        go_wp2_with fail
        exact ⟨⟨k + 1, by go_num, hk, HQ⟩, by simp [RowKit.intOf]; omega⟩
    · have hkz : ¬ (k : Int) < (n : Int) := by omega
      have hke : k = n := by omega
      have HQ := Lib.hid (HF.out _ _ (hke ▸ HI.out))
      clear hke HI
      go_wp2_with fail
      go_ret
      exact HQ.out
end Go.Proofs.Ytjlkfoaccllflaa
