/-
  Layer note: Read.
-/
import Derived.Test.YtfadpiipigkocaaMg20
import Derived.Test.YtfadpiipigkocaaMg21
namespace Go.Proofs.Ytfadpiipigkocaa
open Go.RowKit Go.Gz

/-- a note of nothing. -/
def ntN : NtL := ⟨0, 0, 0, 0, 0, askZ, ⟨0, 0, 0, false, [], [], [], false⟩, [], [], [], [], 0, []⟩
def ntQ : NtP := ⟨none, 0, none, 0, none, 0, none, 0⟩
theorem ntN_val : ntV ntN ntQ = .agg noteZ := rfl
theorem ntN_in (w : World) : NtIn w ntN ntQ := ⟨Or.inl rfl, Or.inl rfl, Or.inl rfl, (fun e he => by cases he), Or.inl rfl⟩
/-- what Read answers. -/
def RetRd (w : World) (l : List UInt8) (e : Ending) (w' : World) : Prop :=
  ∃ n P E, e = .returned (.tuple #[ntV n P, .int .i64 E]) ∧ Below w.heap.size w w' ∧ NtIn w' n P ∧
    ((E = 0 ∧ ∃ x, readL noteC l = .ok x ∧ NtOf n x ∧ (packN n).isSome = true) ∨ (E = 5 ∧ n = ntN ∧ ((∃ e, readL noteC l = .error e) ∨ ∃ m x, readL noteC l = .ok x ∧ NtOf m x ∧ packN m = none)))

theorem NtIn.offRow {w : World} {n : NtL} {P : NtP} {A B : Nat} {c : Array Value} (h : NtIn w n P) (hn : NtNew B n P) (hA : A < B) : NtIn (w.setRow A c) n P := by
  have hz : (w.setRow A c).heap.size = w.heap.size := size_setRow ..
  have hb : ∀ b, B ≤ b → (w.setRow A c).heap[b]? = w.heap[b]? := fun b h => setRow_other (by omega)
  refine ⟨h.rs.move (by omega) fun b off hp _ => hb b (hn.rp b off hp), h.ls.move (by omega) fun b off hp _ => hb b (hn.lp b off hp), ?_, fun e he => (h.les e he).move (by omega) fun b off hp _ => hb b (hn.es e he b off hp), ?_⟩
  · rcases h.la with h1 | ⟨b, off, hp, hlt, hc⟩
    · exact Or.inl h1
    · exact Or.inr ⟨b, off, hp, by omega, fun j hj i hi => by rw [World.cell?_of_block (w := w) (a := ⟨b, off + j * 9 + i, none⟩) (hb b (hn.ap b off hp))]; exact hc j hj i hi⟩
  · rcases h.sh with h1 | ⟨b, off, hp, hlt, hc⟩
    · exact Or.inl h1
    · exact Or.inr ⟨b, off, hp, by omega, fun j hj i hi => by rw [World.cell?_of_block (w := w) (a := ⟨b, off + j * KS.n + i, none⟩) (hb b (hn.hp b off hp))]; exact hc j hj i hi⟩
set_option maxHeartbeats 8000000 in
set_option maxRecDepth 100000 in
theorem read_n (l : List UInt8) (p : Option Addr) (cap : Nat) (w : World) (hp : Row w .u8 p (nums l)) (hl : l.length ≤ 1000000) :
    Calls Try.prog 11 #[.slice p l.length cap] w (RetRd w l) := by
  obtain ⟨W1, hW1⟩ : ∃ W1, w.alloc (.cells noteZ 43) = W1 := ⟨_, rfl⟩
  have hb1 : Below w.heap.size w W1 := hW1 ▸ (Below.refl _ _).alloc (Nat.le_refl _) _
  have hz1 : W1.heap.size = w.heap.size + 1 := by rw [← hW1]; simp
  have HA1 := Lib.hid (show W1.heap[w.heap.size]? = some (.cells noteZ 43 (0, 0)) from hW1 ▸ new_block _ _ _)
  have CT := Lib.hid (take_n l p cap W1 (hp.below hb1) (by omega))
  have HSM := Lib.hid (fun (n : NtL) (x : NtT) (h1 : readL noteC l = .ok x) (h2 : NtOf n x) => (nt_small h1 h2 hl).1)
  have HB1 := Lib.hid hb1
  have HW1 := Lib.hid hW1
  have HZ1 := Lib.hid hz1
  have HNZ := Lib.hid (show ∀ e, readL noteC l = .error e → e ≠ 0 from fun e h h0 => by
    have := rdPart_ne (M := l.length) noz_note (show rdPart l.length noteC l = .error e by unfold rdPart; rw [if_neg (by omega)]; exact h)
    exact this h0)
  have HIZ := Lib.hid (show (Try.prog.info? 43).map (·.size) = some noteZ.size from info_note)
  have HOZ := Lib.hid (show noteZ.all (·.oneCell') = true from nt_one ntN ntQ)
  obtain ⟨ll, hll⟩ : ∃ n, l.length = n := ⟨_, rfl⟩
  rw [hll] at CT ⊢
  obtain ⟨Z, hZ⟩ : ∃ Z : Array Value, noteZ = Z := ⟨_, rfl⟩
  have HZ := Lib.hid hZ
  have HIN0 := Lib.hid (show (Try.prog.info? 43).map (·.size) = some noteZ.size from info_note)
  have HON0 := Lib.hid (show noteZ.all (·.oneCell') = true from nt_one ntN ntQ)
  have HSN0 := Lib.hid (show Z.size = noteZ.size by rw [hZ])
  rw [hZ] at HA1 HIZ HOZ
  clear hp hb1 hz1 hW1 hl hll hZ
  go_enter Try.func11, Try.ntmps11
  go_upto_region 1 with fail
  rw [HW1.out]
  go_wp2_with fail
  refine CT.out.mono ?_
  rintro e w2 ⟨n, P, rfl, hb2, hx⟩
  have HX := Lib.hid hx
  have HB2 := Lib.hid (HB1.out.trans (hb2.mono (by have := HZ1.out; omega)))
  have HA2 := Lib.hid (show w2.heap[w.heap.size]? = some (.cells Z 43 (0, 0)) by rw [hb2.block _ (by have := HZ1.out; omega)]; exact HA1.out)
  have HS2 := Lib.hid (show w.heap.size + 1 ≤ w2.heap.size by have := hb2.size; have := HZ1.out; omega)
  have CM := Lib.hid (fun w1 (h1 : NtIn w1 n P) (h2 : NtSm n) => may_n n P w1 h1 h2)
  have HF := Lib.hid (show ∀ E w', Below w.heap.size w w' → NtIn w' n P → ((E = 0 ∧ ∃ x, readL noteC l = .ok x ∧ NtOf n x ∧ (packN n).isSome = true) ∨ (E = 5 ∧ n = ntN ∧ ((∃ e, readL noteC l = .error e) ∨ ∃ m x, readL noteC l = .ok x ∧ NtOf m x ∧ packN m = none))) → RetRd w l (.returned (.tuple #[ntV n P, .int .i64 E])) w' from fun E w' h1 h2 h3 => ⟨n, P, E, rfl, h1, h2, h3⟩)
  have HF0 := Lib.hid (show ∀ w', Below w.heap.size w w' → ((∃ e, readL noteC l = .error e) ∨ ∃ m x, readL noteC l = .ok x ∧ NtOf m x ∧ packN m = none) → RetRd w l (.returned (.tuple #[.agg Z, .int .i64 5])) w' from fun w' h1 h2 => ⟨ntN, ntQ, 5, by rw [ntN_val, HZ.out], h1, ntN_in _, Or.inr ⟨rfl, rfl, h2⟩⟩)
  unfold ntV at HF CM ⊢
  obtain ⟨c, hc⟩ : ∃ c, (ntList n P).toArray = c := ⟨_, rfl⟩
  rw [hc] at HF CM ⊢
  have hcs : c.size = 27 := by rw [← hc]; rfl
  have HSZ := Lib.hid (show (Try.prog.info? 43).map (·.size) = some c.size by rw [hcs]; exact info_note)
  have HONE := Lib.hid (show c.all (·.oneCell') = true by rw [← hc]; exact nt_one n P)
  have HCS := Lib.hid hcs
  have hst := note_store w2 c w2.heap.size rfl hcs
  obtain ⟨W3, hW3⟩ : ∃ W3, w2.alloc (.cells c 43) = W3 := ⟨_, rfl⟩
  rw [hW3] at hst
  have HST := Lib.hid hst
  have hb3 : Below w2.heap.size w2 W3 := hW3 ▸ (Below.refl _ _).alloc (Nat.le_refl _) _
  have HA3 := Lib.hid (show W3.heap[w.heap.size]? = some (.cells Z 43 (0, 0)) by rw [hb3.block _ (by have := HS2.out; omega)]; exact HA2.out)
  have HC3 := Lib.hid (show W3.heap[w2.heap.size]? = some (.cells c 43 (0, 0)) from hW3 ▸ new_block _ _ _)
  have HB3 := Lib.hid hb3
  have HBW3 := Lib.hid (HB2.out.trans (hb3.mono HB2.out.size))
  obtain ⟨E, hE⟩ : ∃ E, errX (readL noteC l) = E := ⟨_, rfl⟩
  have HE := Lib.hid hE
  rw [hE]
  clear hb2 hx hc hcs hst hW3 hb3 hE CT
  go_upto_region 2 with (with_reducible refine wpList_store_row rfl 43 (.tmp 4) (.tmp 9) rfl w2.heap.size c rfl rfl 43 noteZ HST.out.1 HSZ.out HST.out.2.1 HONE.out ?_)
  rw [HST.out.2.2]
  by_cases h0 : E = 0
  · subst h0
    have HOK := Lib.hid (show ∃ x, readL noteC l = .ok x from by
      cases hr : readL noteC l with
      | ok x => exact ⟨x, rfl⟩
      | error e => exact absurd (by have := HE.out; rw [hr] at this; exact this) (HNZ.out e hr))
    have HIN := Lib.hid (show NtIn w2 n P ∧ NtSm n ∧ ∃ x, readL noteC l = .ok x ∧ NtOf n x from by
      obtain ⟨x, hx⟩ := HOK.out
      exact ⟨(HX.out x hx).2.1, HSM.out n x hx (HX.out x hx).1, x, hx, (HX.out x hx).1⟩)
    have HNW := Lib.hid (show NtNew W1.heap.size n P from by
      obtain ⟨x, hx⟩ := HOK.out
      exact (HX.out x hx).2.2)
    have C1 := Lib.hid (CM.out W3 (HIN.out.1.below HB3.out) HIN.out.2.1)
    go_wp2_with (refine wpList_load_rowW (by simp [Region.wanted, yielded]) 43 (.tmp 4) rfl w2.heap.size rfl 43 c (0, 0) _ HC3.out Try.underlying43 rfl HSZ.out ?_)
    refine C1.out.mono ?_
    rintro e w4 ⟨rfl, hb4⟩
    have HA4 := Lib.hid (show w4.heap[w.heap.size]? = some (.cells Z 43 (0, 0)) by rw [hb4.block _ (by have := HS2.out; have := HB3.out.size; omega)]; exact HA3.out)
    have HC4 := Lib.hid (show w4.heap[w2.heap.size]? = some (.cells c 43 (0, 0)) by rw [hb4.block _ (Array.getElem?_eq_some_iff.1 HC3.out).1]; exact HC3.out)
    have HB4 := Lib.hid (HBW3.out.trans (hb4.mono HBW3.out.size))
    have HB24 := Lib.hid (HB3.out.trans (hb4.mono HB3.out.size))
    clear hb4
    obtain ⟨q, hq⟩ : ∃ q, (packN n).isSome = q := ⟨_, rfl⟩
    have HQ := Lib.hid hq
    rw [hq]
    clear hq
    cases q with
    | true =>
      have HRZ := Lib.hid (show Z.size = c.size from HZ.out ▸ HST.out.2.1)
      have hA5 : (w4.setRow w.heap.size c).heap[w.heap.size]? = some (.cells c 43 (0, 0)) := setRow_heap _ _ _ _ _ _ HA4.out
      have HA5 := Lib.hid hA5
      have HB5 := Lib.hid (below_setRow (cs := c) HB4.out (Nat.le_refl w.heap.size))
      have HP := Lib.hid (HF.out 0 (w4.setRow w.heap.size c) HB5.out ((HIN.out.1.below HB24.out).offRow HNW.out (by have := HZ1.out; omega)) (Or.inl ⟨rfl, by obtain ⟨x, h1, h2⟩ := HIN.out.2.2; exact ⟨x, h1, h2, HQ.out⟩⟩))
      clear hA5
      go_wp2_with (first | (with_reducible refine wpList_load_row rfl 43 (.tmp 4) rfl w2.heap.size rfl 43 c (0, 0) _ HC4.out Try.underlying43 rfl HSZ.out ?_) | (with_reducible refine wpList_store_row rfl 43 (.tmp 2) (.tmp 19) rfl w.heap.size c rfl rfl 43 Z HA4.out HSZ.out HRZ.out HONE.out ?_))
      refine bodyPost_ret (v := .tuple #[.agg c, .int .i64 0]) ?_ rfl HP.out
      exact results_cell_slot rfl _ _ w.heap.size 43 c (0, 0) _ (.int .i64 0) rfl rfl HA5.out Try.underlying43 rfl HSZ.out
    | false =>
      have hq : w4.setRow w.heap.size noteZ = w4 := by rw [HZ.out]; exact setRow_self _ _ _ _ _ HA4.out
      have HP := Lib.hid (HF0.out w4 HB4.out (Or.inr (by obtain ⟨x, h1, h2⟩ := HIN.out.2.2; exact ⟨n, x, h1, h2, by have := HQ.out; cases hp : packN n with | none => rfl | some y => rw [hp] at this; cases this⟩)))
      go_wp2_with (with_reducible refine wpList_store_row rfl 43 (.tmp 2) (.tmp 18) rfl w.heap.size noteZ rfl rfl 43 Z HA4.out HIN0.out HSN0.out HON0.out ?_)
      refine bodyPost_ret (v := .tuple #[.agg Z, .int .i64 5]) ?_ rfl HP.out
      exact results_cell_slot rfl _ _ w.heap.size 43 Z (0, 0) _ (.int .i64 5) rfl rfl HA4.out Try.underlying43 rfl HIZ.out
  · have hEz : ((E : Int) != 0) = true := by simp; omega
    have HEN := Lib.hid (show ∃ e, readL noteC l = .error e from by
      cases hr : readL noteC l with
      | ok x => exact absurd (by have := HE.out; rw [hr] at this; exact this.symm) h0
      | error e => exact ⟨e, rfl⟩)
    have hq : W3.setRow w.heap.size noteZ = W3 := by rw [HZ.out]; exact setRow_self _ _ _ _ _ HA3.out
    have HP := Lib.hid (HF0.out W3 HBW3.out (Or.inl HEN.out))
    clear h0
    go_wp2_with (with_reducible refine wpList_store_row rfl 43 (.tmp 2) (.tmp 18) rfl w.heap.size noteZ rfl rfl 43 Z HA3.out HIN0.out HSN0.out HON0.out ?_)
    refine bodyPost_ret (v := .tuple #[.agg Z, .int .i64 5]) ?_ rfl HP.out
    exact results_cell_slot rfl _ _ w.heap.size 43 Z (0, 0) _ (.int .i64 5) rfl rfl HA3.out Try.underlying43 rfl HIZ.out
end Go.Proofs.Ytfadpiipigkocaa
