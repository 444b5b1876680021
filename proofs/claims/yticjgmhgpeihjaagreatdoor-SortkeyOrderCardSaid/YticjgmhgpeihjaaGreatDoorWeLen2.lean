/-
  Layer weigh: what is taken with a row from further on: the walk.
-/
import Derived.Test.YticjgmhgpeihjaaGreatDoorWeLen
namespace Go.Proofs.YticjgmhgpeihjaaGreatDoor
open Go.RowKit Go.Gz Go.Sort

structure LnFix (W0 : World) (rs : List WR) (row : List Int → Option WR) (f : Nat → Int) (cls : Int → Int) (la : Nat → Nat) (n b e : Nat) (L : List Nat) : Prop where
  hrow : rowL rs = row
  rows : ∀ x ∈ rs, RowAt W0 x ∧ x.of.length ≤ 9223372036854775807
  last : Lasts (fun i => cls (f i)) la n
  ord : Ord (fun i => cls (f i)) n
  nn : ∀ i, i < n → 0 ≤ cls (f i)
  full : ∀ k : List Int, 3 < k.length → row k = none
  blk : W0.heap.size ≤ b
  en : e < n
  few : n < 1000000
def LnRel (W0 W : World) (row : List Int → Option WR) (f : Nat → Int) (cls : Int → Int) (la : Nat → Nat) (n b e : Nat) (x0 : WR) (L : List Nat) (va vb : Value) (wr : World) (g : Nat) : Prop :=
  ∃ (best : WR) (passed : Int) (P R : List Nat) (nx : Nat → Nat) (a : Nat), va = .int .i64 (lastE e P : Nat) ∧ vb = .int .i64 (a : Int) ∧ R.length ≤ g ∧ AtL nx n a R ∧ Lk nx n e (P ++ R) ∧ (e :: (P ++ R)).Pairwise (· < ·) ∧ LenInv f cls row la n x0 L best passed P R ∧ RowAt W0 best ∧ best.of.length ≤ 9223372036854775807 ∧ W.grownBy wr (some b) ∧ TX wr b n f cls nx la ∧ LnW W wr best
/-- the row that lengthen answers, and what is left. -/
def RetLen (W : World) (_row : List Int → Option WR) (f : Nat → Int) (cls : Int → Int) (la : Nat → Nat) (n b e : Nat) (x : WR) (L : List Nat) (en : Ending) (w' : World) : Prop :=
  en = .returned (.agg #[.slice x.op x.of.length x.oc, .slice x.tp x.to.length x.tc]) ∧ W.grownBy w' (some b) ∧ ∃ nx, TX w' b n f cls nx la ∧ Lk nx n e L

set_option maxHeartbeats 4000000 in
set_option maxRecDepth 100000 in
theorem lengthen_any (W0 : World) (rs : List WR) (hr : RisingW rs) (p : Option Addr) (cap : Nat) (row : List Int → Option WR) (b n e : Nat) (f : Nat → Int) (cls : Int → Int) (nx la : Nat → Nat) (x0 : WR) (L : List Nat) (W : World) (hl : Wrs W0 p rs) (hsz : rs.length < 1000000)
    (hf : LnFix W0 rs row f cls la n b e L) (hW : Below W0.heap.size W0 W) (hx0 : RowAt W0 x0 ∧ x0.of.length ≤ 9223372036854775807) (ht : TX W b n f cls nx la) (hlk : Lk nx n e L) (hlive : Live (fun i => cls (f i)) la n L) (hsrt : (e :: L).Pairwise (· < ·)) :
    Calls Tryz.prog 56 #[.slice p rs.length cap, .slice (some ⟨b, 0, none⟩) n n, .agg #[.slice x0.op x0.of.length x0.oc, .slice x0.tp x0.to.length x0.tc], .int .i64 (e : Int)] W (RetLen W row f cls la n b e (lengthenG f cls row x0 0 L).1 (lengthenG f cls row x0 0 L).2) := by
  have hro := Lib.hid (fun k q d w hb hk hkz => rowOf_any rs hr p cap k q d w (hl.below hb) hk hsz hkz fun x hx => (hf.rows x hx).2)
  have HF := Lib.hid hf; clear hf
  have HW := Lib.hid hW; clear hW
  have HX0 := Lib.hid hx0; clear hx0
  have HT := Lib.hid ht; clear ht
  have HLK := Lib.hid hlk; clear hlk
  have HLV := Lib.hid hlive; clear hlive
  have HSR := Lib.hid hsrt; clear hsrt
  clear hl hr
  obtain ⟨q3, hq3⟩ : ∃ q3, lengthenG f cls row x0 0 L = q3 := ⟨_, rfl⟩
  rw [hq3]
  have HQ3 := Lib.hid hq3; clear hq3
  have hbW := HT.out.lt
  have t0 := HT.out.cn e HF.out.en
  have henz : (e : Int) < (n : Int) := by have := HF.out.en; omega
  have hB0 := HW.out.size
  have t0b := cell_alloc (.cells #[.slice x0.op x0.of.length x0.oc, .slice x0.tp x0.to.length x0.tc] 47) t0 hbW
  have t0c := cell_alloc (.cells #[.slice none 0 0, .slice none 0 0] 47) t0b (by show b < _; simp; omega)
  go_enter Tryz.func56, Tryz.ntmps56
  go_wp2_with fail
  clear t0 t0b t0c
  go_loopg [3, 9] L.length (fun g va vb wr => Hid (LnRel W0 W row f cls la n b e x0 L va vb wr g))
  case atStart =>
    refine Lib.hid ⟨x0, 0, [], L, nx, nx e, rfl, rfl, Nat.le_refl _, lk_at HLK.out, HLK.out, HSR.out, LenInv.start HF.out.nn HLV.out, HX0.out.1, HX0.out.2, ?_, ?_, ?_⟩
    · exact but_of (((Below.refl _ _).alloc (Nat.le_refl _) _).alloc (by simp) _) b
    · exact HT.out.below (((Below.refl _ _).alloc (Nat.le_refl _) _).alloc (by simp) _)
    · exact ⟨by simp, by simp, by simp, by simp, by simp, ⟨_, by simp; rfl⟩, ⟨_, by simp; rfl⟩, by simp, by simp⟩
  case round =>
    have hrel' := hrel.out
    clear hrel
    obtain ⟨best, passed, P, R, nx', a, rfl, rfl, hg, hat, hlk, hsrt, hinv, hbest, hbl, hgr, htx, hln⟩ := hrel'
    have hsz2 := hln.sz
    rcases atL_lt hat (fun j hj => hinv.live.lt j (by simp [hj])) with ⟨rfl, rfl⟩ | ⟨t, rfl, han, hlk2⟩
    · have haz : decide ((a : Int) < (a : Int)) = false := decide_eq_false (by omega)
      have hq := Lib.hid (show q3 = (best, P ++ []) from HQ3.out.symm.trans (hinv.done HF.out.full (Or.inl fun q T h => by cases h)))
      obtain ⟨v0, r0⟩ := hln.r0
      obtain ⟨v1, r1⟩ := hln.r1
      have s0 := hln.s0
      have s1 := hln.s1
      have c0 := hln.c0
      have c1 := hln.c1
      have HG := Lib.hid hgr
      have HTX := Lib.hid htx
      have HLKr := Lib.hid hlk
      clear hgr htx hlk hln hat hsrt hinv hbest
      go_wp2_with fail
      obtain ⟨w2, hw2⟩ : ∃ w2, (wr.setCell ⟨W.heap.size + 1, 0, none⟩ (.slice best.op best.of.length best.oc)).setCell ⟨W.heap.size + 1, 1, none⟩ (.slice best.tp best.to.length best.tc) = w2 := ⟨_, rfl⟩
      have p0 : w2.cell? ⟨W.heap.size + 1, 0, none⟩ = some (.slice best.op best.of.length best.oc) := by rw [← hw2]; simp [go_sem, r0]
      have p1 : w2.cell? ⟨W.heap.size + 1, 1, none⟩ = some (.slice best.tp best.to.length best.tc) := by rw [← hw2]; simp [go_sem, r1]
      have hg2 : W.grownBy w2 (some b) := by rw [← hw2]; exact but_set (but_set HG.out ⟨W.heap.size + 1, 0, none⟩ _ (Or.inr (Nat.le_succ _))) ⟨W.heap.size + 1, 1, none⟩ _ (Or.inr (Nat.le_succ _))
      have ht2 : TX w2 b a f cls nx' la := by rw [← hw2]; exact HTX.out.kept (((Below.refl (W.heap.size + 1) wr).setCell (p := ⟨W.heap.size + 1, 0, none⟩) (Nat.le_refl _) _).setCell (p := ⟨W.heap.size + 1, 1, none⟩) (Nat.le_refl _) _) (by omega)
      rw [hw2]
      refine bodyPost_ret (v := .agg #[.slice best.op best.of.length best.oc, .slice best.tp best.to.length best.tc]) (by simp [results, Tryz.results56, go_sem, p0, p1]) rfl ?_
      rw [hq.out]
      exact ⟨rfl, hg2, nx', ht2, HLKr.out⟩
    · have haz : (a : Int) < (n : Int) := by omega
      have t1 := htx.cc a han
      obtain ⟨cv, hcv⟩ : ∃ cv, cls (f a) = cv := ⟨_, rfl⟩
      rw [hcv] at t1
      by_cases hc0 : 0 < cv
      · have c0 := hln.c0
        by_cases h3 : best.of.length < 3
        · have h3z : (best.of.length : Int) < 3 := by omega
          have t2 := htx.cr a han
          obtain ⟨r, hfr⟩ : ∃ r, f a = r := ⟨_, rfl⟩
          rw [hfr] at t2
          have HFR := Lib.hid hfr
          have HCV := Lib.hid hcv
          have HLN := Lib.hid hln
          have HGR := Lib.hid hgr
          have HTX := Lib.hid htx
          have HLKr := Lib.hid hlk
          have HSRT := Lib.hid hsrt
          have HINV := Lib.hid hinv
          have HBEST := Lib.hid hbest
          have HLK2 := Lib.hid hlk2
          clear hfr hcv hln hgr htx hlk hsrt hinv hbest hlk2 hat
          have HWr := Lib.hid (HW.out.trans (but_below HGR.out HF.out.blk hB0))
          have hwsz := HGR.out.size
          have c0a := cell_alloc (.cells #[.slice none 0 0, .slice none 0 0] 47) c0 (by show W.heap.size < _; omega)
          have t2a := cell_alloc (.cells #[.slice none 0 0, .slice none 0 0] 47) t2 (by show b < _; omega)
          have HBd := Lib.hid HWr.out.drew
          have HBa := Lib.hid (HWr.out.alloc HWr.out.size (.cells #[.slice none 0 0, .slice none 0 0] 47)).drew
          have hwi := Lib.hid (fun w (hb : Below W0.heap.size W0 w) => with_any best.of best.op best.oc r w (HBEST.out.1.1.below hb) HBEST.out.1.2.2 (by omega))
          have hkl : (best.of ++ [r]).length < 1000000 := by simp; omega
          have hrk := Lib.hid (fun q d w hb hk => hro.out (best.of ++ [r]) q d w hb hk hkl)
          clear hkl
          obtain ⟨x, hx⟩ : ∃ x, fndL rs (best.of ++ [r]) = x := ⟨_, rfl⟩
          obtain ⟨bq, hbq⟩ : ∃ bq, isL rs (best.of ++ [r]) = bq := ⟨_, rfl⟩
          rw [hx, hbq] at hrk
          have HX := Lib.hid hx
          have HBQ := Lib.hid hbq
          clear hx hbq
          have mx := mixedL
          obtain ⟨key, hkey⟩ : ∃ key, best.of ++ [r] = key := ⟨_, rfl⟩
          rw [hkey] at hrk hwi HX HBQ
          have HKEY := Lib.hid hkey; clear hkey
          go_upto_region 4 with fail
          go_cut [10, 11] from 40 to 52 (fun tp fo wx => ∃ g : Nat, tp = .pointer (some ⟨g, 0, none⟩) ∧ fo = .bool bq ∧ Hid (AtRow wr wx g x))
          case first =>
            go_region_with (first
              | (go_at_call 81; first
                  | (refine (hwi.out _ HBd.out).mono ?_; rintro e w1 ⟨v, rfl, hb1, hown⟩; obtain ⟨q', c', rfl, _, hrow⟩ := Own.row hown; have HB1 := Lib.hid (show Below wr.heap.size wr w1 from (Below.refl wr.heap.size wr).drew.trans hb1); have HW1 := Lib.hid (HWr.out.trans (HB1.out.mono HWr.out.size)); have HR := Lib.hid (hrk.out q' c' w1 HW1.out hrow); have HRa := Lib.hid (hrk.out q' c' (w1.alloc (.cells #[.slice none 0 0, .slice none 0 0] 47)) (HW1.out.alloc HW1.out.size _) (hrow.below ((Below.refl _ _).alloc (Nat.le_refl _) _))); clear hb1 hown hrow)
                  | (refine (hwi.out _ HBa.out).mono ?_; rintro e w1 ⟨v, rfl, hb1, hown⟩; obtain ⟨q', c', rfl, _, hrow⟩ := Own.row hown; have HB1 := Lib.hid (show Below wr.heap.size wr w1 from ((Below.refl wr.heap.size wr).alloc (Nat.le_refl _) (.cells #[.slice none 0 0, .slice none 0 0] 47)).drew.trans (hb1.mono (by simp))); have HW1 := Lib.hid (HWr.out.trans (HB1.out.mono HWr.out.size)); have HR := Lib.hid (hrk.out q' c' w1 HW1.out hrow); have hs1 : wr.heap.size < w1.heap.size := Nat.lt_of_lt_of_le (by simp) hb1.size; have q0 : w1.cell? ⟨wr.heap.size, 0, none⟩ = some (.slice none 0 0) := cell_below hb1 (by simp) (by simp); have q1 : w1.cell? ⟨wr.heap.size, 1, none⟩ = some (.slice none 0 0) := cell_below hb1 (by simp) (by simp); have q2 : w1.frozen? ⟨wr.heap.size, 0, none⟩ = false := froz_below hb1 (by simp) (by simp); have q3 : w1.frozen? ⟨wr.heap.size, 1, none⟩ = false := froz_below hb1 (by simp) (by simp); clear hb1 hown hrow))
              | (go_at_call 67; first
                  | (refine HRa.out.mono ?_; rintro e w2 ⟨rfl, hb2, _⟩; have HB2 := Lib.hid (HB1.out.trans (((Below.refl w1.heap.size w1).alloc (Nat.le_refl _) (.cells #[.slice none 0 0, .slice none 0 0] 47)).trans (hb2.mono (by simp)) |>.mono HB1.out.size)); have z0 : w2.cell? ⟨w1.heap.size, 0, none⟩ = some (.slice none 0 0) := cell_below hb2 (by simp) (by simp); have z1 : w2.cell? ⟨w1.heap.size, 1, none⟩ = some (.slice none 0 0) := cell_below hb2 (by simp) (by simp); have z2 : w2.frozen? ⟨w1.heap.size, 0, none⟩ = false := froz_below hb2 (by simp) (by simp); have z3 : w2.frozen? ⟨w1.heap.size, 1, none⟩ = false := froz_below hb2 (by simp) (by simp); clear hb2)
                  | (refine HR.out.mono ?_; rintro e w2 ⟨rfl, hb2, _⟩; have HB2 := Lib.hid (HB1.out.trans (hb2.mono HB1.out.size)); have z0 : w2.cell? ⟨wr.heap.size, 0, none⟩ = some (.slice none 0 0) := cell_below hb2 q0 hs1; have z1 : w2.cell? ⟨wr.heap.size, 1, none⟩ = some (.slice none 0 0) := cell_below hb2 q1 hs1; have z2 : w2.frozen? ⟨wr.heap.size, 0, none⟩ = false := froz_below hb2 q2 hs1; have z3 : w2.frozen? ⟨wr.heap.size, 1, none⟩ = false := froz_below hb2 q3 hs1; clear hb2)
                  | (refine HR.out.mono ?_; rintro e w2 ⟨rfl, hb2, _⟩; have HB2 := Lib.hid (HB1.out.trans (hb2.mono HB1.out.size)); clear hb2)))
            all_goals (go_wp2_with fail; go_meet)
            all_goals first
              | exact ⟨_, rfl, rfl, Lib.hid (AtRow.new x _ HB2.out)⟩
              | exact ⟨_, rfl, rfl, Lib.hid (AtRow.old x HB2.out (Nat.le_refl _) z0 z1)⟩
              | exact ⟨_, rfl, rfl, Lib.hid (AtRow.old x HB2.out HB1.out.size z0 z1)⟩
          case rest =>
            obtain ⟨g, rfl, rfl, HA⟩ := hcut
            have HLNx := Lib.hid (HLN.out.below HA.out.hb)
            have HTXx := Lib.hid (HTX.out.below HA.out.hb)
            have HGx := Lib.hid (but_trans HGR.out (but_of HA.out.hb b))
            clear c0 c0a t1 t2 t2a hwi hrk
            have hne : b ≠ W.heap.size := by omega
            cases bq with
            | true =>
              have hkx := Lib.hid (show row (best.of ++ [r]) = some x by
                rw [HKEY.out, ← HF.out.hrow]
                have h1 := HX.out
                have h2 := HBQ.out
                unfold fndL at h1
                unfold isL at h2
                cases hk : rowL rs key with
                | none => rw [hk] at h2; simp at h2
                | some y => rw [hk] at h1; simp at h1; rw [h1])
              have hxr := Lib.hid (HF.out.rows x (row_some (HF.out.hrow.symm ▸ hkx.out)).1)
              obtain ⟨ah, hah⟩ : ∃ ah, lastE e P = ah := ⟨_, rfl⟩
              rw [hah]
              have hahn : ah < n := by
                rw [← hah]
                rcases List.mem_cons.1 (lastE_mem (P := P) (e := e)) with h | h
                · rw [h]; exact HF.out.en
                · exact HINV.out.live.lt _ (by simp [h])
              have HAH := Lib.hid hah; clear hah
              have hahz : (ah : Int) < (n : Int) := by omega
              have d0 := HA.out.c0
              have d1 := HA.out.c1
              have c0 := HLNx.out.c0
              have c1 := HLNx.out.c1
              have g0 := HLNx.out.g0
              have g1 := HLNx.out.g1
              have n1 := HTXx.out.cn a han
              have n2 := HTXx.out.cn ah hahn
              have n3 := HTXx.out.wr ah hahn
              go_wp2_with fail
              go_roundg t.length
              case measure => simp only [List.length_cons] at hg; omega
              case rel => exact Lib.hid ⟨x, passed, P, t, updN nx' ah (nx' a), nx' a, by rw [HAH.out], rfl, Nat.le_refl _, by
                  have h1 := lk_remove HSRT.out HLKr.out
                  rw [HAH.out] at h1
                  have h2 := lk_at (lk_append h1)
                  rw [HAH.out] at h2
                  rwa [show updN nx' ah (nx' a) ah = nx' a by simp [updN]] at h2, by
                  have h1 := lk_remove HSRT.out HLKr.out
                  rwa [HAH.out] at h1, by
                  have h1 := HSRT.out
                  exact h1.sublist (List.Sublist.cons_cons _ (List.Sublist.append_left (List.sublist_cons_self a t) P)), HINV.out.take HF.out.last HF.out.ord HF.out.nn (by rw [HCV.out]; exact hc0) (by rw [HFR.out]; exact hkx.out), hxr.out.1, hxr.out.2,
                  but_set (but_set (but_set HGx.out ⟨W.heap.size, 0, none⟩ _ (Or.inr (Nat.le_refl _))) ⟨W.heap.size, 1, none⟩ _ (Or.inr (Nat.le_refl _))) ⟨b, ah * 4 + 2, none⟩ _ (Or.inl rfl),
                  (HTXx.out.kept (((Below.refl W.heap.size _).setCell (p := ⟨W.heap.size, 0, none⟩) (Nat.le_refl _) _).setCell (p := ⟨W.heap.size, 1, none⟩) (Nat.le_refl _) _) hbW).put ah (nx' a) hahn,
                  (HLNx.out.row x).put b _ _ hbW⟩
            | false =>
              have hkn := Lib.hid (show row (best.of ++ [r]) = none by
                rw [HKEY.out, ← HF.out.hrow]
                have h2 := HBQ.out
                unfold isL at h2
                cases hk : rowL rs key with
                | none => rfl
                | some y => rw [hk] at h2; simp at h2)
              have hlan := (HF.out.last.le a han).2
              have hlanz : (la a : Int) < (n : Int) := by omega
              have n1 := HTXx.out.cl a han
              have n2 := HTXx.out.cn (la a) hlan
              go_wp2_with fail
              go_roundg t.length
              case measure => simp only [List.length_cons] at hg; omega
              case rel =>
                obtain ⟨Q, T, hQT, hlast, hinv'⟩ := HINV.out.jump HF.out.last HF.out.ord HF.out.nn (by rw [HCV.out]; exact hc0) (by rw [HFR.out]; exact hkn.out)
                have hPQ : P ++ a :: t = P ++ a :: Q ++ T := by rw [hQT]; simp
                have hle : lastE e (P ++ a :: Q) = la a := by rw [lastE_append]; exact hlast
                have h1 := HLKr.out
                rw [hPQ] at h1
                have h3 := HSRT.out
                rw [hPQ] at h3
                exact Lib.hid ⟨best, cls (f a), P ++ a :: Q, T, nx', nx' (la a), by rw [hle], rfl, by rw [hQT]; simp, by
                  have h2 := lk_at (lk_append h1)
                  rwa [hle] at h2, h1, h3, hinv', HBEST.out, hbl, HGx.out, HTXx.out, HLNx.out⟩
        · have h3z : decide ((best.of.length : Int) < 3) = false := decide_eq_false (by omega)
          have hq := Lib.hid (show q3 = (best, P ++ a :: t) from HQ3.out.symm.trans (hinv.done HF.out.full (Or.inr (by omega))))
          obtain ⟨v0, r0⟩ := hln.r0
          obtain ⟨v1, r1⟩ := hln.r1
          have s0 := hln.s0
          have s1 := hln.s1
          have c1 := hln.c1
          have HG := Lib.hid hgr
          have HTX := Lib.hid htx
          have HLKr := Lib.hid hlk
          clear hgr htx hlk hln hat hsrt hinv hbest
          go_wp2_with fail
          obtain ⟨w2, hw2⟩ : ∃ w2, (wr.setCell ⟨W.heap.size + 1, 0, none⟩ (.slice best.op best.of.length best.oc)).setCell ⟨W.heap.size + 1, 1, none⟩ (.slice best.tp best.to.length best.tc) = w2 := ⟨_, rfl⟩
          have p0 : w2.cell? ⟨W.heap.size + 1, 0, none⟩ = some (.slice best.op best.of.length best.oc) := by rw [← hw2]; simp [go_sem, r0]
          have p1 : w2.cell? ⟨W.heap.size + 1, 1, none⟩ = some (.slice best.tp best.to.length best.tc) := by rw [← hw2]; simp [go_sem, r1]
          have hg2 : W.grownBy w2 (some b) := by rw [← hw2]; exact but_set (but_set HG.out ⟨W.heap.size + 1, 0, none⟩ _ (Or.inr (Nat.le_succ _))) ⟨W.heap.size + 1, 1, none⟩ _ (Or.inr (Nat.le_succ _))
          have ht2 : TX w2 b n f cls nx' la := by rw [← hw2]; exact HTX.out.kept (((Below.refl (W.heap.size + 1) wr).setCell (p := ⟨W.heap.size + 1, 0, none⟩) (Nat.le_refl _) _).setCell (p := ⟨W.heap.size + 1, 1, none⟩) (Nat.le_refl _) _) (by omega)
          rw [hw2]
          refine bodyPost_ret (v := .agg #[.slice best.op best.of.length best.oc, .slice best.tp best.to.length best.tc]) (by simp [results, Tryz.results56, go_sem, p0, p1]) rfl ?_
          rw [hq.out]
          exact ⟨rfl, hg2, nx', ht2, HLKr.out⟩
      · have hc0d : decide (0 < cv) = false := decide_eq_false hc0
        have hcz : cls (f a) = 0 := by have := HF.out.nn a han; omega
        have hq := Lib.hid (show q3 = (best, P ++ a :: t) from HQ3.out.symm.trans (hinv.done HF.out.full (Or.inl fun q T h => by injection h with h1 _; rw [← h1]; exact hcz)))
        obtain ⟨v0, r0⟩ := hln.r0
        obtain ⟨v1, r1⟩ := hln.r1
        have s0 := hln.s0
        have s1 := hln.s1
        have c0 := hln.c0
        have c1 := hln.c1
        have HG := Lib.hid hgr
        have HTX := Lib.hid htx
        have HLKr := Lib.hid hlk
        clear hgr htx hlk hln hat hsrt hinv hbest
        go_wp2_with fail
        obtain ⟨w2, hw2⟩ : ∃ w2, (wr.setCell ⟨W.heap.size + 1, 0, none⟩ (.slice best.op best.of.length best.oc)).setCell ⟨W.heap.size + 1, 1, none⟩ (.slice best.tp best.to.length best.tc) = w2 := ⟨_, rfl⟩
        have p0 : w2.cell? ⟨W.heap.size + 1, 0, none⟩ = some (.slice best.op best.of.length best.oc) := by rw [← hw2]; simp [go_sem, r0]
        have p1 : w2.cell? ⟨W.heap.size + 1, 1, none⟩ = some (.slice best.tp best.to.length best.tc) := by rw [← hw2]; simp [go_sem, r1]
        have hg2 : W.grownBy w2 (some b) := by rw [← hw2]; exact but_set (but_set HG.out ⟨W.heap.size + 1, 0, none⟩ _ (Or.inr (Nat.le_succ _))) ⟨W.heap.size + 1, 1, none⟩ _ (Or.inr (Nat.le_succ _))
        have ht2 : TX w2 b n f cls nx' la := by rw [← hw2]; exact HTX.out.kept (((Below.refl (W.heap.size + 1) wr).setCell (p := ⟨W.heap.size + 1, 0, none⟩) (Nat.le_refl _) _).setCell (p := ⟨W.heap.size + 1, 1, none⟩) (Nat.le_refl _) _) (by omega)
        rw [hw2]
        refine bodyPost_ret (v := .agg #[.slice best.op best.of.length best.oc, .slice best.tp best.to.length best.tc]) (by simp [results, Tryz.results56, go_sem, p0, p1]) rfl ?_
        rw [hq.out]
        exact ⟨rfl, hg2, nx', ht2, HLKr.out⟩
end Go.Proofs.YticjgmhgpeihjaaGreatDoor
