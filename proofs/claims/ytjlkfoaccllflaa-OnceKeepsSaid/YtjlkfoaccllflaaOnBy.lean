/-
  Layer once: the entries by client; All.
-/
import Derived.Test.YtjlkfoaccllflaaOnKeys
import Derived.Test.YtjlkfoaccllflaaByBase
namespace Go.Proofs.Ytjlkfoaccllflaa
open Go.RowKit Go.Gz Go.Maps

/-- what a row of entries of one's own answers. -/
def RetE (t : TypeId) (w : World) (S : List (Int × RepL)) (e : Ending) (w' : World) : Prop := ∃ v L, e = .returned v ∧ OwnE w' w.heap.size t v L ∧ semL L = S ∧ EntsIn w' L ∧ OrdK ck L ∧ Below w.heap.size w w'
structure BcI (w : World) (mb : Option Nat) (L : List Ent) (kv : Value) (k : Nat) (M : List Ent) (v : Value) (wr : World) : Prop where
  own : OwnE wr w.heap.size 51 v M
  sem : semL M = semL (L.take k)
  ents : EntsIn wr M
  typ : ∀ e ∈ M, RecT wr e.p
  bl : Below w.heap.size w wr
  keys : Own wr w.heap.size 3 .i64 kv (L.map ck)
theorem getD_map_ck (L : List Ent) (k : Nat) (h : k < L.length) : (L.map ck).getD k 0 = ck (L.getD k default) := by simp [List.getD, h]

set_option maxHeartbeats 4000000 in
set_option maxRecDepth 100000 in
theorem by_any (w : World) (mb : Option Nat) (L : List Ent) (hm : MapAt w mb L) (he : EntsIn w L) (hL : L.length ≤ 10000) :
    Calls Try.prog 21 #[.map mb] w (RetE 51 w (semL L)) := by
  have CK := Lib.hid (keys_any w mb)
  have CS := Lib.hid (sorted_any w mb L hm (by omega))
  have HM := Lib.hid hm
  have HE := Lib.hid he
  have HL := Lib.hid hL
  obtain ⟨W, hW⟩ : ∃ W, w.alloc (.cells #[.map mb] 56) = W := ⟨_, rfl⟩
  have HB := Lib.hid (show Below w.heap.size w W from hW ▸ (Below.refl _ _).alloc (Nat.le_refl _) _)
  rw [hW] at CK CS
  have HZ := Lib.hid (show w.heap.size ≤ W.heap.size by rw [← hW]; simp)
  have HF := Lib.hid (show ∀ v M w', OwnE w' w.heap.size 51 v M → semL M = semL L → EntsIn w' M → Below w.heap.size w w' → RetE 51 w (semL L) (.returned v) w' from fun v M w' h1 h2 h3 h4 => ⟨v, M, rfl, h1, h2, h3, by
    have := ord_sem.2 hm.ord
    rw [← h2] at this
    exact ord_sem.1 this, h4⟩)
  clear hW hm he hL
  go_enter Try.func21, Try.ntmps21
  obtain ⟨n, hn⟩ : ∃ n, L.length = n := ⟨_, rfl⟩
  have HN := Lib.hid hn
  have hnb : (n : Int) ≤ 10000 := by have := HL.out; omega
  clear hn
  go_wp2_with (first | (go_at_call 27; refine CK.out.mono ?_; rintro e w1 ⟨rfl, rfl⟩) | (go_at_call 26; refine CS.out.mono ?_; rintro e w1 ⟨kv, rfl, hkv, hb1⟩; obtain ⟨q, d, rfl, -, hqd, -⟩ := own_row hkv; rw [show (L.map ck).length = n from by rw [List.length_map]; exact HN.out] at hkv ⊢; have HK := Lib.hid hkv; have HB1 := Lib.hid hb1; clear hkv hb1))
  go_loopw [3, 11] (fun v i wr => ∃ (k : Nat) (M : List Ent), i = .int .i64 k ∧ k ≤ n ∧ Hid (BcI w mb L (.slice q n d) k M v wr)) (fun _ i _ => n - (intOf i).toNat)
  case atStart => exact ⟨0, [], rfl, Nat.zero_le _, Lib.hid ⟨OwnE.nil _ _ _, by simp, (fun e he => by cases he), (fun e he => by cases he), HB.out.trans (HB1.out.mono HZ.out), own_mono HK.out HZ.out⟩⟩
  case round =>
    obtain ⟨k, M, rfl, hkn, HI⟩ := hrel
    rcases Nat.lt_or_ge k n with hk | hk
    · have hkz : (k : Int) < (n : Int) := by omega
      have hklt : k < L.length := by rw [HN.out]; exact hk
      obtain ⟨e, he⟩ : ∃ e, L.getD k default = e := ⟨_, rfl⟩
      have hmem : e ∈ L := by rw [← he]; simp [List.getD, hklt]
      have hin := (HE.out e hmem).below HI.out.bl
      have hlk : (Instr.lookup 56 (.map mb) (.int .i64 (ck e)) false).run Try.prog wr = .ok e.val wr := by
        have h1 := (HM.out.below HI.out.bl).look (ck e) hin.wf
        unfold lookV at h1
        rw [findK_of_mem HM.out.ord hmem] at h1
        exact h1
      obtain ⟨q', d', hq, -, -, hrow⟩ := own_row HI.out.keys
      injection hq with hq1 hq2 hq3
      subst hq1 hq3
      clear hq2
      obtain ⟨kb, ko, rfl, -, hcell⟩ := row_cell hrow (Below.refl _ _) (j := k) (by rw [List.length_map]; exact hklt)
      rw [getD_map_ck L k hklt, he] at hcell
      obtain ⟨es, er, ep, ek⟩ := e
      simp only [ck] at hcell hlk
      obtain ⟨W1, hW1⟩ : ∃ W1, wr.alloc (.cells #[.int .i64 es, .int .i64 er.c, .int .i64 er.s, .int .i64 er.e, .bool er.fd, .string (strB er.v), .slice ep er.ls.length ek, .string (strB er.nx), .bool er.mr] 51) = W1 := ⟨_, rfl⟩
      have hb1 : Below wr.heap.size wr W1 := hW1 ▸ (Below.refl _ _).alloc (Nat.le_refl _) _
      have hy : W1.heap[wr.heap.size]? = some (.cells #[.int .i64 es, .int .i64 er.c, .int .i64 er.s, .int .i64 er.e, .bool er.fd, .string (strB er.v), .slice ep er.ls.length ek, .string (strB er.nx), .bool er.mr] 51 (0, 0)) := hW1 ▸ new_block _ _ _
      have hz1 : W1.heap.size = wr.heap.size + 1 := by rw [← hW1]; simp
      have CO := own_any er (by have := hin.few; simp only at this; omega) ep ek W1 (hin.rs.below hb1) hin.pc
      have HIN := Lib.hid (show EntIn wr ⟨es, er, ep, ek⟩ from hin)
      have HSM := Lib.hid (show semL (L.take (k + 1)) = semL (L.take k) ++ [(es, er)] from by
        rw [List.take_succ_eq_append_getElem hklt]
        have : L[k] = ⟨es, er, ep, ek⟩ := by rw [← he]; simp [List.getD, hklt]
        rw [this]
        simp [semL, Ent.sem])
      have HML := Lib.hid (show M.length = k by
        have := sem_length HI.out.sem
        rw [this, List.length_take]; omega)
      obtain ⟨R, hR⟩ : ∃ R, er = R := ⟨_, rfl⟩
      have HRR := Lib.hid hR
      rw [hR] at CO HSM HIN
      obtain ⟨yc, yrs, ye, yf, yv, yls, yn, ym⟩ := er
      simp only [Ent.val] at hlk hcell hW1 hy
      generalize hvx : strB yv = v at hlk hW1 hy
      generalize hnx : strB yn = nx at hlk hW1 hy
      obtain ⟨m, hm⟩ : ∃ m, yls.length = m := ⟨_, rfl⟩
      rw [hm] at hlk hW1 hy
      have hrep : ∀ q k, repV R q k = .agg #[.int .i64 yc, .int .i64 yrs, .int .i64 ye, .bool yf, .string v, .slice q m k, .string nx, .bool ym] := fun q k => by rw [← hR, ← hvx, ← hnx, ← hm]; rfl
      have HREP := Lib.hid hrep
      rw [hrep ep ek] at CO
      have HCO := Lib.hid CO
      have HW1 := Lib.hid hW1
      have HB2 := Lib.hid hb1
      have HY := Lib.hid hy
      have HZ1 := Lib.hid hz1
      have HHE := Lib.hid he
      clear he hmem hin hrow hR hvx hnx hm hrep CO hW1 hb1 hy hz1 HRR
      go_upto_region 6 with fail
      rw [HW1.out]
      have y1 := cell_at HY.out 1
      have y2 := cell_at HY.out 2
      have y3 := cell_at HY.out 3
      have y4 := cell_at HY.out 4
      have y5 := cell_at HY.out 5
      have y6 := cell_at HY.out 6
      have y7 := cell_at HY.out 7
      have y8 := cell_at HY.out 8
      clear hlk
      go_upto_region 7 with (go_at_call 24; refine HCO.out.mono ?_; rintro e w2 ⟨p2, k2, rfl, hr2, hpk2, hb2, hlo2, ht2⟩; rw [HREP.out p2 k2]; have hk := (hb2.block wr.heap.size (by have := HZ1.out; omega)).trans HY.out; have g1 := frozen_at hk 1; have g2 := frozen_at hk 2; have g3 := frozen_at hk 3; have g4 := frozen_at hk 4; have g5 := frozen_at hk 5; have g6 := frozen_at hk 6; have g7 := frozen_at hk 7; have g8 := frozen_at hk 8; have z1 := cell_at hk 1; have z2 := cell_at hk 2; have z3 := cell_at hk 3; have z4 := cell_at hk 4; have z5 := cell_at hk 5; have z6 := cell_at hk 6; have z7 := cell_at hk 7; have z8 := cell_at hk 8; have HK2 := Lib.hid hk; have HR2 := Lib.hid (And.intro (And.intro hr2 (And.intro hlo2 ht2)) (And.intro hpk2 hb2)); clear hk hr2 hpk2 hb2 hlo2 ht2)
      clear y1 y2 y3 y4 y5 y6 y7 y8 g1 g2 g3 g4 g5 g6 g7 g8 z1 z2 z3 z4 z5 z6 z7 z8
      change Code.wp _ _ _ _ (sets w2 wr.heap.size 1 [.int .i64 yc, .int .i64 yrs, .int .i64 ye, .bool yf, .string v, .slice p2 m k2, .string nx, .bool ym])
      have hkk := sets_kept wr.heap.size [.int .i64 yc, .int .i64 yrs, .int .i64 ye, .bool yf, .string v, .slice p2 m k2, .string nx, .bool ym] 1 w2
      have hbb := sets_block wr.heap.size _ _ [.int .i64 yc, .int .i64 yrs, .int .i64 ye, .bool yf, .string v, .slice p2 m k2, .string nx, .bool ym] [.int .i64 es] [.int .i64 yc, .int .i64 yrs, .int .i64 ye, .bool yf, .string v, .slice ep m ek, .string nx, .bool ym] w2 rfl HK2.out
      generalize sets _ _ _ _ = w3 at hkk hbb ⊢
      have hb3 : Below wr.heap.size wr w3 := (HB2.out.trans (HR2.out.2.2.mono (by have := HZ1.out; omega))).trans (hkk.below (fun k hk => by omega) (by have := HR2.out.2.2.size; have := HZ1.out; omega))
      have HIE := Lib.hid (show EntIn w3 ⟨es, R, p2, k2⟩ from ⟨HR2.out.1.1.keptOff hkk fun b off e => by have := HR2.out.1.2.1 b off e; have := HZ1.out; omega, HIN.out.few, HR2.out.2.1, HIN.out.wf⟩)
      have HTE := Lib.hid (show RecT w3 p2 from HR2.out.1.2.2.kept hkk fun b off e => by have := HR2.out.1.2.1 b off e; have := HZ1.out; omega)
      have HTW := Lib.hid (show ∀ e ∈ M, RecT w3 e.p from fun e he => (HI.out.typ e he).below hb3)
      have HB3 := Lib.hid hb3
      have HBB := Lib.hid hbb
      have HOW := Lib.hid (HI.out.own.below hb3)
      have HKW := Lib.hid (below_own HI.out.keys hb3)
      have HSE := Lib.hid HI.out.sem
      have HEW := Lib.hid (HI.out.ents.below hb3)
      have HBW := Lib.hid (HI.out.bl.trans (hb3.mono HI.out.bl.size))
      have z0 := cell_at hbb 0
      have z1 := cell_at hbb 1
      have z2 := cell_at hbb 2
      have z3 := cell_at hbb 3
      have z4 := cell_at hbb 4
      have z5 := cell_at hbb 5
      have z6 := cell_at hbb 6
      have z7 := cell_at hbb 7
      have z8 := cell_at hbb 8
      clear hkk hbb hb3 HI
      have HON := Lib.hid (show RowE (w3.alloc (.cells #[.int .i64 es, .int .i64 yc, .int .i64 yrs, .int .i64 ye, .bool yf, .string v, .slice p2 m k2, .string nx, .bool ym] 51)) (some ⟨w3.heap.size, 0, none⟩) [⟨es, R, p2, k2⟩] from by
        refine one_ent (e := ⟨es, R, p2, k2⟩) (t := 51) (fz := (0, 0)) ?_
        have := HREP.out p2 k2
        unfold repV at this
        injection this with this
        injection this with this
        injection this with a1 this
        injection this with a2 this
        injection this with a3 this
        injection this with a4 this
        injection this with a5 this
        injection this with a6 this
        injection this with a7 this
        injection this with a8 this
        rw [a1, a2, a3, a4, a5, a6, a7, a8]
        exact new_block _ _ _)
      go_wp2_with (at_builtin; refine wpList_app_ents ent_once rfl _ _ rfl rfl (HOW.out.alloc _) (some ⟨w3.heap.size, 0, none⟩) 1 [⟨es, R, p2, k2⟩] rfl HON.out (fun h => by cases h) (by have := HML.out; have := HL.out; have := HN.out; simp only [List.length_cons, List.length_nil]; omega) (by have := HBW.out.size; simp; omega) ?_; intro v4 w4 hown4 hgrow4 hat4)
      have hal : Below w3.heap.size w3 (w3.alloc (.cells #[.int .i64 es, .int .i64 yc, .int .i64 yrs, .int .i64 ye, .bool yf, .string v, .slice p2 m k2, .string nx, .bool ym] 51)) := (Below.refl _ _).alloc (Nat.le_refl _) _
      have hka := HKW.out.alloc (.cells #[.int .i64 es, .int .i64 yc, .int .i64 yrs, .int .i64 ye, .bool yf, .string v, .slice p2 m k2, .string nx, .bool ym] 51)
      have hoa := HOW.out.alloc (.cells #[.int .i64 es, .int .i64 yc, .int .i64 yrs, .int .i64 ye, .bool yf, .string v, .slice p2 m k2, .string nx, .bool ym] 51)
      have hkg := Kept.grown (F := fun j => u3.ownBlock = some j) hgrow4 (fun g hg => hg)
      have hkeys : Own w4 w.heap.size 3 .i64 (.slice (some ⟨kb, ko, none⟩) n d) (L.map ck) := hka.kept hkg (fun g hg hf => by
        obtain ⟨c1, f1, h1⟩ := hka.type g hg
        obtain ⟨c2, f2, h2⟩ := hoa.type g hf
        rw [h1] at h2
        injection h2 with h2
        injection h2 with _ h2 _
        cases h2)
      have hrec : ∀ e : Ent, RecT w3 e.p → EntIn w3 e → EntIn w4 e ∧ RecT w4 e.p := fun e ht he => by
        have ho := (ht.below hal).off hgrow4 (fun g hg => hoa.type g hg) (by decide)
        exact ⟨⟨(he.rs.below hal).keptOff hkg fun b off hp hf => ho b off hp hf, he.few, he.pc, he.wf⟩, (ht.below hal).kept hkg fun b off hp hf => ho b off hp hf⟩
      refine ⟨⟨k + 1, M ++ [⟨es, R, p2, k2⟩], by go_num, hk, Lib.hid ⟨hown4, by rw [HSM.out, ← HSE.out]; simp [semL, Ent.sem], ?_, ?_, ?_, hkeys⟩⟩, by simp [intOf]; omega⟩
      · intro e he
        rcases List.mem_append.1 he with he | he
        · exact (hrec e (HTW.out e he) (HEW.out e he)).1
        · obtain rfl : e = ⟨es, R, p2, k2⟩ := by simpa using he
          exact (hrec _ HTE.out HIE.out).1
      · intro e he
        rcases List.mem_append.1 he with he | he
        · exact (hrec e (HTW.out e he) (HEW.out e he)).2
        · obtain rfl : e = ⟨es, R, p2, k2⟩ := by simpa using he
          exact (hrec _ HTE.out HIE.out).2
      · exact (HBW.out.alloc HBW.out.size _).grown hgrow4 (by have := HBW.out.size; simp; omega) (fun g hg => HOW.out.lt g hg)
    · have hkz : ¬ (k : Int) < (n : Int) := by omega
      have HI2 := Lib.hid HI.out
      have hke : k = n := by omega
      have HKE := Lib.hid hke
      clear HI hke
      go_wp2_with fail
      go_ret
      exact HF.out _ _ _ HI2.out.own (by rw [HI2.out.sem, HKE.out, ← HN.out, List.take_length]) HI2.out.ents HI2.out.bl
end Go.Proofs.Ytjlkfoaccllflaa
