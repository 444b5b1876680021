/-
  Several texts in one: NtBack, PcSame, NtSameA, AtBk.
-/
import Derived.Test.YtfadpiipigkocaaNtRead
import Derived.Test.YtfadpiipigkocaaMg04
import Derived.Deep.CutRange
import Derived.Test.YtfadpiipigkocaaMg13
import Derived.Test.YtfadpiipigkocaaMg06
import Derived.Deep.QuietTactic
import Derived.BigQuiet
import Derived.Deep.DeepCutAuto
import Derived.Laws.StructEq
import Derived.Test.YtfadpiipigkocaaMg16
import Derived.Deep.RegionLaw
import Derived.LoopTactic
namespace Go.Proofs.Ytfadpiipigkocaa
open Go.RowKit Go.Gz

theorem lastS_sem (M : Nat) (st : Option (List UInt8)) {e e' : Ent} (h : e.sem = e'.sem) : lastS M st e = lastS M st e' := by
  have h1 : e.s = e'.s := congrArg Prod.fst h
  have h2 : e.r = e'.r := congrArg Prod.snd h
  unfold lastS
  rw [h1, h2]
theorem foldl_sem (M : Nat) : ∀ (L L' : List Ent) (st : Option (List UInt8)), L.map Ent.sem = L'.map Ent.sem → L.foldl (lastS M) st = L'.foldl (lastS M) st
  | [], [], _, _ => rfl
  | [], _ :: _, _, h => by cases h
  | _ :: _, [], _, h => by cases h
  | e :: L, e' :: L', st, h => by
    simp only [List.map_cons, List.cons.injEq] at h
    show L.foldl (lastS M) (lastS M st e) = L'.foldl (lastS M) (lastS M st e')
    rw [lastS_sem M st h.1]
    exact foldl_sem M L L' _ h.2
theorem nil_sem {L L' : List Ent} (h : L.map Ent.sem = L'.map Ent.sem) : (L = []) = (L' = []) := by
  have := congrArg List.length h
  simp only [List.length_map] at this
  exact propext ⟨fun e => by subst e; exact List.length_eq_zero_iff.1 this.symm, fun e => by subst e; exact List.length_eq_zero_iff.1 this⟩
theorem lay_same {a b : NtL} (h : NtSame a b) : layN a = layN b := by
  obtain ⟨kd, fr, to_, ep, tk, ask, rep, sf, st, ls, la, ae, sh⟩ := a
  obtain ⟨kd', fr', to_', ep', tk', ask', rep', sf', st', ls', la', ae', sh'⟩ := b
  obtain ⟨h1, h2, h3, h4, h5, h6, h7, h8, h9, h10, h11, h12, h13⟩ := h
  simp only at h1 h2 h3 h4 h5 h6 h7 h8 h9 h10 h11 h12 h13
  subst h1 h2 h3 h4 h5 h6 h7 h8 h9 h10 h12 h13
  have hl : la.length = la'.length := by simpa using congrArg List.length h11
  unfold layN lay7 lay6 itemsS
  simp only
  rw [hl, foldl_sem MX la la' _ h11]
  rfl
theorem dec_congr {p q : Prop} (h : p ↔ q) : @decide p (Classical.propDecidable p) = @decide q (Classical.propDecidable q) := by
  have := propext h
  subst this
  rfl
theorem bare_la {la la' : List Ent} (h : la.map Ent.sem = la'.map Ent.sem) (kd fr to_ ep tk : Int) (ask : AskL) (rep : RepL) (sf st : List UInt8) (ls : List RecL) (ae : Int) (sh : List Sd) :
    bareB ⟨kd, fr, to_, ep, tk, ask, rep, sf, st, ls, la, ae, sh⟩ = bareB ⟨kd, fr, to_, ep, tk, ask, rep, sf, st, ls, la', ae, sh⟩ := by
  have hn := nil_sem h
  unfold bareB
  exact dec_congr (by simp only [hn])
theorem fits_same {a b : NtL} (h : NtSame a b) : fitsB a = fitsB b := by
  obtain ⟨kd, fr, to_, ep, tk, ask, rep, sf, st, ls, la, ae, sh⟩ := a
  obtain ⟨kd', fr', to_', ep', tk', ask', rep', sf', st', ls', la', ae', sh'⟩ := b
  obtain ⟨h1, h2, h3, h4, h5, h6, h7, h8, h9, h10, h11, h12, h13⟩ := h
  simp only at h1 h2 h3 h4 h5 h6 h7 h8 h9 h10 h11 h12 h13
  subst h1 h2 h3 h4 h5 h6 h7 h8 h9 h10 h12 h13
  have e := bare_la h11
  unfold fitsB
  simp only [e]
theorem pack_eq {a b : NtL} (h : NtSame a b) : packN a = packN b := by
  unfold packN
  rw [h.fr, h.to_, fits_same h, lay_same h]
theorem pack_lay {n : NtL} {Y : List UInt8} (h : packN n = some Y) : layN n = some Y := by
  unfold packN at h
  split at h
  · exact h
  · cases h
theorem NtSame.symm {a b : NtL} (h : NtSame a b) : NtSame b a := ⟨h.kd.symm, h.fr.symm, h.to_.symm, h.ep.symm, h.tk.symm, h.ask.symm, h.rep.symm, h.sf.symm, h.st.symm, h.ls.symm, h.la.symm, h.ae.symm, h.sh.symm⟩
/-- what Read answers of bytes that Pack answered. -/
def RetBk (w : World) (n : NtL) (e : Ending) (w' : World) : Prop := ∃ m P, e = .returned (.tuple #[ntV m P, .int .i64 0]) ∧ Below w.heap.size w w' ∧ NtIn w' m P ∧ NtSame n m
theorem read_back (n : NtL) (Y : List UInt8) (hY : packN n = some Y) (hl : Y.length ≤ 1000000) (p : Option Addr) (cap : Nat) (w : World) (hp : Row w .u8 p (nums Y)) :
    Calls Try.prog 11 #[.slice p Y.length cap] w (RetBk w n) := by
  refine (read_n Y p cap w hp hl).mono ?_
  rintro e w' ⟨m, P, E, rfl, hb, hin, h⟩
  obtain ⟨x, hx1, hx2, hx3⟩ := lay_packed (pack_lay hY)
  have hr : readL noteC Y = .ok x := by rw [hx2]; exact read_enc noteC x hx1
  rcases h with ⟨rfl, y, h1, h2, -⟩ | ⟨-, -, ⟨e, h1⟩ | ⟨k, y, h1, h2, h3⟩⟩
  · rw [hr] at h1
    injection h1 with h1
    subst h1
    exact ⟨m, P, rfl, hb, hin, (nt_of_inj hx3 h2).1 rfl⟩
  · rw [hr] at h1; cases h1
  · rw [hr] at h1
    injection h1 with h1
    subst h1
    rw [← pack_eq ((nt_of_inj hx3 h2).1 rfl), hY] at h3
    cases h3
end Go.Proofs.Ytfadpiipigkocaa
namespace Go.Proofs.Ytfadpiipigkocaa
open Go.RowKit

theorem eq_rec (n : Nat) (a b a' b' : ByteArray) (w : World) : (Op.equalIn (n + 2) 47 (.agg #[.string a, .string b]) (.agg #[.string a', .string b'])).run Try.prog w = .ok (decide (a.toList = a'.toList) && decide (b.toList = b'.toList)) w := by
  by_cases h1 : a.toList = a'.toList
  · by_cases h2 : b.toList = b'.toList
    · simp [go_sem, h1, h2]
    · simp [go_sem, h1, h2]
  · simp [go_sem, h1]
theorem toList_strB (l : List UInt8) : (strB l).toList = l := by rw [ByteArray.toList_eq]; rfl
theorem toList_inj {a b : ByteArray} (h : a.toList = b.toList) : a = b := by
  rw [ByteArray.toList_eq, ByteArray.toList_eq] at h
  cases a; cases b
  simp only [ByteArray.mk.injEq]
  exact Array.toList_inj.1 h
theorem list_same {α : Type} {d : α} {n : Nat} {l l' : List α} (h : l.length = n) (h' : l'.length = n) (ha : ∀ j, j < n → l.getD j d = l'.getD j d) : l = l' := by
  refine List.ext_getElem (by omega) fun j h1 h2 => ?_
  have := ha j (by omega)
  simpa [List.getD, h1, h2] using this
theorem two_boxes {w wr : World} {c1 c2 : Array Value} {t1 t2 : TypeId} (hb : Below (w.heap.size + 2) ((w.alloc (.cells c1 t1)).alloc (.cells c2 t2)) wr) : (∀ i, wr.cell? ⟨w.heap.size, i, none⟩ = c1[i]?) ∧ (∀ i, wr.cell? ⟨w.heap.size + 1, i, none⟩ = c2[i]?) := by
  have z : (w.alloc (.cells c1 t1)).heap.size = w.heap.size + 1 := by simp
  have h2 : ((w.alloc (.cells c1 t1)).alloc (.cells c2 t2)).heap[w.heap.size + 1]? = some (.cells c2 t2 (0, 0)) := by
    have := new_block (w.alloc (.cells c1 t1)) c2 t2
    rwa [z] at this
  have h1 : ((w.alloc (.cells c1 t1)).alloc (.cells c2 t2)).heap[w.heap.size]? = some (.cells c1 t1 (0, 0)) := by
    have hb1 : Below (w.alloc (.cells c1 t1)).heap.size (w.alloc (.cells c1 t1)) ((w.alloc (.cells c1 t1)).alloc (.cells c2 t2)) := (Below.refl _ _).alloc (Nat.le_refl _) _
    rw [hb1.block w.heap.size (by rw [z]; omega)]
    exact new_block _ _ _
  exact ⟨fun i => by rw [hb.cell (p := ⟨w.heap.size, i, none⟩) (by show w.heap.size < _; omega)]; exact cell_at h1 i,
    fun i => by rw [hb.cell (p := ⟨w.heap.size + 1, i, none⟩) (by show w.heap.size + 1 < _; omega)]; exact cell_at h2 i⟩
set_option maxHeartbeats 4000000 in
theorem same_any (r r' : RepL) (p p' : Option Addr) (k k' : Nat) (w : World) (hp : Recs w p r.ls) (hp' : Recs w p' r'.ls) (hl : r.ls.length ≤ 9223372036854775807) (hl' : r'.ls.length ≤ 9223372036854775807) :
    Calls Try.prog 16 #[repV r p k, repV r' p' k'] w fun e w' => ∃ b : Bool, e = .returned (.bool b) ∧ (b = true ↔ r = r') ∧ Below w.heap.size w w' := by
  obtain ⟨c, s, er, fd, v, ls, nx, mr⟩ := r
  obtain ⟨c', s', er', fd', v', ls', nx', mr'⟩ := r'
  unfold repV
  simp only at hl hl' hp hp' ⊢
  have HP := Lib.hid hp
  have HP' := Lib.hid hp'
  obtain ⟨n, hN⟩ : ∃ n, ls.length = n := ⟨_, rfl⟩
  obtain ⟨n', hN'⟩ : ∃ n, ls'.length = n := ⟨_, rfl⟩
  rw [hN] at hl ⊢
  rw [hN'] at hl' ⊢
  have HN := Lib.hid hN
  have HN' := Lib.hid hN'
  obtain ⟨B, hB⟩ : ∃ B : Bool, (B = true ↔ (⟨c, s, er, fd, v, ls, nx, mr⟩ : RepL) = ⟨c', s', er', fd', v', ls', nx', mr'⟩) := by
    by_cases h : (⟨c, s, er, fd, v, ls, nx, mr⟩ : RepL) = ⟨c', s', er', fd', v', ls', nx', mr'⟩
    · exact ⟨true, by simp [h]⟩
    · exact ⟨false, by simp [h]⟩
  have HEq : (⟨c, s, er, fd, v, ls, nx, mr⟩ : RepL) = ⟨c', s', er', fd', v', ls', nx', mr'⟩ ↔ (c = c' ∧ s = s' ∧ er = er' ∧ fd = fd' ∧ (strB v).toList = (strB v').toList ∧ ls = ls' ∧ (strB nx).toList = (strB nx').toList ∧ mr = mr') := by
    constructor
    · intro h
      injection h with h1 h2 h3 h4 h5 h6 h7 h8
      exact ⟨h1, h2, h3, h4, by rw [h5], h6, by rw [h7], h8⟩
    · rintro ⟨rfl, rfl, rfl, rfl, h5, rfl, h7, rfl⟩
      rw [toList_strB, toList_strB] at h5 h7
      rw [h5, h7]
  have HQ := Lib.hid (hB.trans HEq)
  suffices hs : Calls Try.prog 16 #[.agg #[.int .i64 c, .int .i64 s, .int .i64 er, .bool fd, .string (strB v), .slice p n k, .string (strB nx), .bool mr], .agg #[.int .i64 c', .int .i64 s', .int .i64 er', .bool fd', .string (strB v'), .slice p' n' k', .string (strB nx'), .bool mr']] w (fun e w' => e = .returned (.bool B) ∧ Below w.heap.size w w') from hs.mono fun e w' h => ⟨B, h.1, hB, h.2⟩
  clear HEq hB
  generalize strB v = v at HQ ⊢
  generalize strB v' = v' at HQ ⊢
  generalize strB nx = nx at HQ ⊢
  generalize strB nx' = nx' at HQ ⊢
  clear hp hp' hN hN'
  go_enter Try.func16, Try.ntmps16
  go_upto_region 1 with fail
  obtain ⟨W, hW⟩ : ∃ W, (w.alloc (.cells #[.int .i64 c, .int .i64 s, .int .i64 er, .bool fd, .string v, .slice p n k, .string nx, .bool mr] 27)).alloc (.cells #[.int .i64 c', .int .i64 s', .int .i64 er', .bool fd', .string v', .slice p' n' k', .string nx', .bool mr'] 27) = W := ⟨_, rfl⟩
  have HZ := Lib.hid (show W.heap.size = w.heap.size + 2 by rw [← hW]; simp)
  have HC := Lib.hid (show ∀ wr, Below W.heap.size W wr → (∀ i, wr.cell? ⟨w.heap.size, i, none⟩ = _) ∧ (∀ i, wr.cell? ⟨w.heap.size + 1, i, none⟩ = _) from fun wr hb => two_boxes (w := w) (wr := wr) (by rw [hW, ← HZ.out]; exact hb))
  have HBW := Lib.hid (show Below w.heap.size w W by rw [← hW]; exact ((Below.refl _ _).alloc (Nat.le_refl _) _).alloc (by simp) _)
  rw [hW]
  clear hW
  have c0 := (HC.out W (Below.refl _ _)).1 0
  have d0 := (HC.out W (Below.refl _ _)).2 0
  have c1 := (HC.out W (Below.refl _ _)).1 1
  have d1 := (HC.out W (Below.refl _ _)).2 1
  have c2 := (HC.out W (Below.refl _ _)).1 2
  have d2 := (HC.out W (Below.refl _ _)).2 2
  have c3 := (HC.out W (Below.refl _ _)).1 3
  have d3 := (HC.out W (Below.refl _ _)).2 3
  have c4 := (HC.out W (Below.refl _ _)).1 4
  have d4 := (HC.out W (Below.refl _ _)).2 4
  have c5 := (HC.out W (Below.refl _ _)).1 5
  have d5 := (HC.out W (Below.refl _ _)).2 5
  have c6 := (HC.out W (Below.refl _ _)).1 6
  have d6 := (HC.out W (Below.refl _ _)).2 6
  have c7 := (HC.out W (Below.refl _ _)).1 7
  have d7 := (HC.out W (Below.refl _ _)).2 7
  by_cases hne : c = c'
  case neg =>
    obtain rfl : B = false := by
      cases B
      · rfl
      · exact absurd ((HQ.out.1 rfl).1) hne
    go_wp2_with fail
    go_ret
    exact ⟨rfl, HBW.out⟩
  subst hne
  by_cases hne : s = s'
  case neg =>
    obtain rfl : B = false := by
      cases B
      · rfl
      · exact absurd ((HQ.out.1 rfl).2.1) hne
    go_wp2_with fail
    go_ret
    exact ⟨rfl, HBW.out⟩
  subst hne
  by_cases hne : er = er'
  case neg =>
    obtain rfl : B = false := by
      cases B
      · rfl
      · exact absurd ((HQ.out.1 rfl).2.2.1) hne
    go_wp2_with fail
    go_ret
    exact ⟨rfl, HBW.out⟩
  subst hne
  by_cases hne : fd = fd'
  case neg =>
    obtain rfl : B = false := by
      cases B
      · rfl
      · exact absurd ((HQ.out.1 rfl).2.2.2.1) hne
    go_wp2_with fail
    go_ret
    exact ⟨rfl, HBW.out⟩
  subst hne
  by_cases hne : v.toList = v'.toList
  case neg =>
    obtain rfl : B = false := by
      cases B
      · rfl
      · exact absurd ((HQ.out.1 rfl).2.2.2.2.1) hne
    go_wp2_with fail
    go_ret
    exact ⟨rfl, HBW.out⟩
  have hne := toList_inj hne
  subst hne
  by_cases hne : nx.toList = nx'.toList
  case neg =>
    obtain rfl : B = false := by
      cases B
      · rfl
      · exact absurd ((HQ.out.1 rfl).2.2.2.2.2.2.1) hne
    go_wp2_with fail
    go_ret
    exact ⟨rfl, HBW.out⟩
  have hne := toList_inj hne
  subst hne
  by_cases hne : mr = mr'
  case neg =>
    obtain rfl : B = false := by
      cases B
      · rfl
      · exact absurd ((HQ.out.1 rfl).2.2.2.2.2.2.2) hne
    go_wp2_with fail
    go_ret
    exact ⟨rfl, HBW.out⟩
  subst hne
  by_cases hne : (n : Int) = (n' : Int)
  case neg =>
    obtain rfl : B = false := by
      cases B
      · rfl
      · exact absurd (by rw [← HN.out, ← HN'.out, (HQ.out.1 rfl).2.2.2.2.2.1]) hne
    go_wp2_with fail
    go_ret
    exact ⟨rfl, HBW.out⟩
  obtain rfl : n = n' := by omega
  have HQ2 := Lib.hid (show B = true ↔ ls = ls' from ⟨fun h => (HQ.out.1 h).2.2.2.2.2.1, fun h => HQ.out.2 ⟨rfl, rfl, rfl, rfl, rfl, h, rfl, rfl⟩⟩)
  clear hne HQ
  go_wp2_with fail
  have hnz : (n : Int) ≤ 9223372036854775807 := by omega
  have hq : ∀ a b a' b' w, (Op.equalIn 10000 47 (.agg #[.string a, .string b]) (.agg #[.string a', .string b'])).run Try.prog w = .ok (decide (a.toList = a'.toList) && decide (b.toList = b'.toList)) w := fun a b a' b' w => eq_rec 9998 a b a' b' w
  clear c0 c1 c2 c3 c4 c5 c6 c7 d0 d1 d2 d3 d4 d5 d6 d7 hl hl'
  go_loopw [5] (fun i wr => ∃ k : Nat, k ≤ n ∧ i = .int .i64 k ∧ Hid (∀ j, j < k → ls.getD j ([], []) = ls'.getD j ([], [])) ∧ Hid (∃ m, wr = W.drewN m)) (fun i _ => n - (RowKit.intOf i).toNat)
  case atStart => exact ⟨0, Nat.zero_le _, rfl, Lib.hid (fun j hj => by omega), Lib.hid ⟨0, rfl⟩⟩
  case round =>
    obtain ⟨k, hk, rfl, HA, HM⟩ := hrel
    obtain ⟨m, rfl⟩ := HM.out
    have HBm := Lib.hid (Below.refl W.heap.size W)
    have c5 := (HC.out _ HBm.out).1 5
    have d5 := (HC.out _ HBm.out).2 5
    by_cases hlt : k < n
    · have hltz : (k : Int) < (n : Int) := by omega
      have HR := Lib.hid (HP.out.below HBW.out)
      have HR' := Lib.hid (HP'.out.below HBW.out)
      obtain ⟨b, o, hpe, hbl, r1, r2⟩ := rec_cell HR.out HBm.out (show k < ls.length by rw [HN.out]; exact hlt)
      obtain ⟨b', o', hpe', hbl', r1', r2'⟩ := rec_cell HR'.out HBm.out (show k < ls'.length by rw [HN'.out]; exact hlt)
      subst hpe
      subst hpe'
      obtain ⟨q, hqq⟩ : ∃ q, (decide ((strB (ls.getD k ([], [])).1).toList = (strB (ls'.getD k ([], [])).1).toList) && decide ((strB (ls.getD k ([], [])).2).toList = (strB (ls'.getD k ([], [])).2).toList)) = q := ⟨_, rfl⟩
      have HG := Lib.hid hqq
      generalize strB (ls.getD k ([], [])).1 = s1 at r1 hqq
      generalize strB (ls.getD k ([], [])).2 = s2 at r2 hqq
      generalize strB (ls'.getD k ([], [])).1 = s1' at r1' hqq
      generalize strB (ls'.getD k ([], [])).2 = s2' at r2' hqq
      have hqs := hq s1 s2 s1' s2'
      rw [hqq] at hqs
      clear hqq hbl hbl' hq
      cases q with
      | true =>
        go_wp2_with fail
        go_quiet (fail)
        go_wp2_with fail
        go_roundw
        case rel => exact ⟨k + 1, by omega, by go_num, Lib.hid (fun j hj => by
          rcases Nat.lt_or_ge j k with h | h
          · exact HA.out j h
          · obtain rfl : j = k := by omega
            have h2 := HG.out
            simp only [Bool.and_eq_true, decide_eq_true_eq, toList_strB] at h2
            exact Prod.ext h2.1 h2.2), Lib.hid ⟨_, rfl⟩⟩
        case measure => simp [RowKit.intOf]; omega
      | false =>
        obtain rfl : B = false := by
          cases B
          · rfl
          · have h2 := HG.out
            rw [HQ2.out.1 rfl] at h2
            simp at h2
        go_wp2_with fail
        go_quiet (fail)
        go_wp2_with fail
        go_ret
        exact ⟨rfl, by first | exact below_drewN HBW.out _ | exact below_drewN (below_drewN HBW.out _) _⟩
    · obtain rfl : k = n := by omega
      have hltz : ¬ (k : Int) < (k : Int) := by omega
      obtain rfl : B = true := HQ2.out.2 (list_same HN.out HN'.out HA.out)
      go_wp2_with fail
      go_ret
      exact ⟨rfl, by first | exact below_drewN HBW.out _ | exact below_drewN (below_drewN HBW.out _) _⟩
end Go.Proofs.Ytfadpiipigkocaa
namespace Go.Proofs.Ytfadpiipigkocaa
open Go.RowKit Go.Gz

theorem ba_inj {a b : ByteArray} (h : a.toList = b.toList) : a = b := by
  rw [ByteArray.toList_eq, ByteArray.toList_eq] at h
  cases a; cases b
  simp only [ByteArray.mk.injEq]
  exact Array.toList_inj.1 h
theorem eq_sdR (n : Nat) (a b a' b' : ByteArray) (c d c' d' : Int) (w : World) : (Op.equalIn (n + 3) 76 (.agg #[.string a, .string b, .int .i64 c, .int .i64 d]) (.agg #[.string a', .string b', .int .i64 c', .int .i64 d'])).run Try.prog w = .ok (decide (a = a' ∧ b = b' ∧ c = c' ∧ d = d')) w := by
  by_cases h1 : a = a'
  · by_cases h2 : b = b'
    · by_cases h3 : c = c'
      · by_cases h4 : d = d'
        · simp [go_sem, h1, h2, h3, h4]
        · simp [go_sem, h1, h2, h3, h4]
      · simp [go_sem, h1, h2, h3]
    · have e2 : ¬ b.toList = b'.toList := fun h => h2 (ba_inj h)
      simp [go_sem, h1, h2, e2]
  · have e1 : ¬ a.toList = a'.toList := fun h => h1 (ba_inj h)
    simp [go_sem, h1, e1]
theorem list_sameD {α : Type} {a b : List α} {n : Nat} {d : α} (ha : a.length = n) (hb : b.length = n) (h : ∀ j, j < n → a.getD j d = b.getD j d) : a = b := by
  apply List.ext_getElem (by omega)
  intro j h1 h2
  have := h j (by omega)
  simpa [List.getD, h1, h2] using this

set_option maxHeartbeats 4000000 in
set_option maxRecDepth 100000 in
theorem sameAt_any (ep ep' : Int) (L M : List Sd) (p q : Option Addr) (c d : Nat) (w : World) (B : Bool) (hB : B = true ↔ (ep = ep' ∧ L = M)) (hp : RowK KS w p L) (hq : RowK KS w q M) (hL : L.length ≤ 1000000) (hM : M.length ≤ 1000000) :
    Calls Try.prog 28 #[.agg #[.int .i64 ep, .slice p L.length c], .agg #[.int .i64 ep', .slice q M.length d]] w fun e w' => e = .returned (.bool B) ∧ Below w.heap.size w w' := by
  have HQ := Lib.hid hB
  have HP := Lib.hid hp
  have HP' := Lib.hid hq
  obtain ⟨n, hN⟩ : ∃ n, L.length = n := ⟨_, rfl⟩
  obtain ⟨n', hN'⟩ : ∃ n, M.length = n := ⟨_, rfl⟩
  have HN := Lib.hid hN
  have HN' := Lib.hid hN'
  rw [hN] at hL ⊢
  rw [hN'] at hM ⊢
  obtain ⟨W, hW⟩ : ∃ W, (w.alloc (.cells #[.int .i64 ep, .slice p n c] 33)).alloc (.cells #[.int .i64 ep', .slice q n' d] 33) = W := ⟨_, rfl⟩
  have HBW := Lib.hid (show Below w.heap.size w W from hW ▸ ((Below.refl _ _).alloc (Nat.le_refl _) _).alloc (by simp) _)
  have hc1 : W.heap[w.heap.size]? = some (.cells #[.int .i64 ep, .slice p n c] 33 (0, 0)) := by
    rw [← hW, Below.heap_alloc _ _ _ (by simp)]; exact new_block _ _ _
  have hc2 : W.heap[w.heap.size + 1]? = some (.cells #[.int .i64 ep', .slice q n' d] 33 (0, 0)) := by
    rw [← hW]
    have := new_block (w.alloc (.cells #[.int .i64 ep, .slice p n c] 33)) #[.int .i64 ep', .slice q n' d] 33
    rwa [World.size_alloc] at this
  have HW := Lib.hid hW
  have HC := Lib.hid (And.intro hc1 hc2)
  have c0 := cell_at hc1 0
  have c1 := cell_at hc1 1
  have d0 := cell_at hc2 0
  have d1 := cell_at hc2 1
  clear hB hp hq hN hN' hW hc1 hc2
  go_enter Try.func28, Try.ntmps28
  go_upto_region 1 with fail
  rw [HW.out]
  by_cases hne : ep = ep'
  case neg =>
    obtain rfl : B = false := by
      cases B
      · rfl
      · exact absurd ((HQ.out.1 rfl).1) hne
    go_wp2_with fail
    go_ret
    exact ⟨rfl, HBW.out⟩
  subst hne
  by_cases hne : (n : Int) = (n' : Int)
  case neg =>
    obtain rfl : B = false := by
      cases B
      · rfl
      · exact absurd (by rw [← HN.out, ← HN'.out, (HQ.out.1 rfl).2]) hne
    go_wp2_with fail
    go_ret
    exact ⟨rfl, HBW.out⟩
  obtain rfl : n = n' := by omega
  have HQ2 := Lib.hid (show B = true ↔ L = M from ⟨fun h => (HQ.out.1 h).2, fun h => HQ.out.2 ⟨rfl, h⟩⟩)
  clear hne HQ
  go_wp2_with fail
  have hnz : (n : Int) ≤ 9223372036854775807 := by omega
  have hq : ∀ a b a' b' c d c' d' w, (Op.equalIn 10000 76 (.agg #[.string a, .string b, .int .i64 c, .int .i64 d]) (.agg #[.string a', .string b', .int .i64 c', .int .i64 d'])).run Try.prog w = .ok (decide (a = a' ∧ b = b' ∧ c = c' ∧ d = d')) w := fun a b a' b' c d c' d' w => eq_sdR 9997 a b a' b' c d c' d' w
  clear c0 c1 d0 d1 hL hM
  go_loopw [5] (fun i wr => ∃ k : Nat, k ≤ n ∧ i = .int .i64 k ∧ Hid (∀ j, j < k → L.getD j default = M.getD j default) ∧ Hid (∃ m, wr = W.drewN m)) (fun i _ => n - (RowKit.intOf i).toNat)
  case atStart => exact ⟨0, Nat.zero_le _, rfl, Lib.hid (fun j hj => by omega), Lib.hid ⟨0, rfl⟩⟩
  case round =>
    obtain ⟨k, hk, rfl, HA, HM⟩ := hrel
    obtain ⟨m, rfl⟩ := HM.out
    have c1 := cell_at HC.out.1 1
    have d1 := cell_at HC.out.2 1
    by_cases hlt : k < n
    · have hltz : (k : Int) < (n : Int) := by omega
      obtain ⟨b, o, hpe, hbl, r⟩ := HP.out.cells HBW.out (show k < L.length by rw [HN.out]; exact hlt)
      obtain ⟨b', o', hpe', hbl', r'⟩ := HP'.out.cells HBW.out (show k < M.length by rw [HN'.out]; exact hlt)
      subst hpe
      subst hpe'
      have x0 := r 0 (by decide)
      have x1 := r 1 (by decide)
      have x2 := r 2 (by decide)
      have x3 := r 3 (by decide)
      have y0 := r' 0 (by decide)
      have y1 := r' 1 (by decide)
      have y2 := r' 2 (by decide)
      have y3 := r' 3 (by decide)
      simp only [KS, Nat.add_zero] at x0 x1 x2 x3 y0 y1 y2 y3
      clear r r'
      obtain ⟨X, hX⟩ : ∃ X, L.getD k default = X := ⟨_, rfl⟩
      obtain ⟨Y, hY⟩ : ∃ Y, M.getD k default = Y := ⟨_, rfl⟩
      rw [hX] at x0 x1 x2 x3
      rw [hY] at y0 y1 y2 y3
      have HXY := Lib.hid (And.intro hX hY)
      clear hX hY
      obtain ⟨⟨X0, X1⟩, X2, X3⟩ := X
      obtain ⟨⟨Y0, Y1⟩, Y2, Y3⟩ := Y
      simp only at x0 x1 x2 x3 y0 y1 y2 y3
      obtain ⟨qb, hqq⟩ : ∃ q, decide (X0 = Y0 ∧ X1 = Y1 ∧ X2 = Y2 ∧ X3 = Y3) = q := ⟨_, rfl⟩
      have HG := Lib.hid hqq
      have hqs := hq X0 X1 Y0 Y1 X2 X3 Y2 Y3
      rw [hqq] at hqs
      clear hqq hbl hbl' hq
      cases qb with
      | true =>
        go_wp2_with fail
        go_quiet (fail)
        go_wp2_with fail
        go_roundw
        case rel => exact ⟨k + 1, by omega, by go_num, Lib.hid (fun j hj => by
          rcases Nat.lt_or_ge j k with h | h
          · exact HA.out j h
          · obtain rfl : j = k := by omega
            have h2 := HG.out
            simp only [decide_eq_true_eq] at h2
            rw [HXY.out.1, HXY.out.2, h2.1, h2.2.1, h2.2.2.1, h2.2.2.2]), Lib.hid ⟨_, rfl⟩⟩
        case measure => simp [RowKit.intOf]; omega
      | false =>
        obtain rfl : B = false := by
          cases B
          · rfl
          · have h2 := HG.out
            have h3 := HXY.out.1
            rw [HQ2.out.1 rfl, HXY.out.2] at h3
            injection h3 with h3 h4 h5
            injection h3 with h6 h7
            simp [h6, h7, h4, h5] at h2
        go_wp2_with fail
        go_quiet (fail)
        go_wp2_with fail
        go_ret
        exact ⟨rfl, by first | exact below_drewN HBW.out _ | exact below_drewN (below_drewN HBW.out _) _⟩
    · obtain rfl : k = n := by omega
      have hltz : ¬ (k : Int) < (k : Int) := by omega
      obtain rfl : B = true := HQ2.out.2 (list_sameD HN.out HN'.out HA.out)
      go_wp2_with fail
      go_ret
      exact ⟨rfl, by first | exact below_drewN HBW.out _ | exact below_drewN (below_drewN HBW.out _) _⟩
end Go.Proofs.Ytfadpiipigkocaa
namespace Go.Proofs.Ytfadpiipigkocaa
open Go.RowKit Go.Gz

/-- .. as far as it has come. -/
structure MdB (w0 : World) (t : TypeId) (ep : Int) (o : Nat) (L : List Sd) (k : Nat) (wr : World) : Prop where
  kept : KeptF (fun j => j = o) w0 wr
  row : ∃ v, wr.heap[o]? = some (.cells #[.int .i64 ep, v] 33 (0, 0)) ∧ OwnK KS wr w0.heap.size t v (L.take k)
set_option maxHeartbeats 8000000 in
set_option maxRecDepth 100000 in
theorem atback_any (w : World) (ep : Int) (L : List Sd) (p : Option Addr) (ca : Nat) (hp : RowK KS w p L) (hL : L.length ≤ 1000000) :
    Calls Try.prog 29 #[.agg #[.int .i64 ep, .slice p L.length ca]] w (RetA w 76 ep L) := by
  obtain ⟨n, hN⟩ : ∃ n, L.length = n := ⟨_, rfl⟩
  have HN := Lib.hid hN
  rw [hN] at hL ⊢
  obtain ⟨w0, hw0⟩ : ∃ w0, ((w.alloc (.cells #[.int .i64 ep, .slice p n ca] 41)).alloc (.cells #[.int .i64 0, .slice none 0 0] 33)).alloc (.cells #[.int .i64 ep, .slice none 0 0] 33) = w0 := ⟨_, rfl⟩
  have HB0 := Lib.hid (show Below w.heap.size w w0 from hw0 ▸ (((Below.refl _ _).alloc (Nat.le_refl _) _).alloc (by simp) _).alloc (by simp; omega) _)
  have hz0 : w0.heap.size = w.heap.size + 3 := by rw [← hw0]; simp
  have HZ := Lib.hid hz0
  have HBX := Lib.hid (show BoxA w0 w.heap.size ep (.slice p n ca) from hw0 ▸ ((BoxA.new w _ _ _).below (below_alloc _ _)).below (below_alloc _ _))
  have HR := Lib.hid (hp.below HB0.out)
  have HPB := Lib.hid (show ∀ a, p = some a → a.block < w.heap.size ∨ L = [] from fun a ha => by
    rcases hp with h | ⟨b, off, hp, hlt, _⟩
    · exact Or.inr h
    · rw [ha] at hp; injection hp with hp; exact Or.inl (by rw [hp]; exact hlt))
  have hnb : w0.heap[w.heap.size + 1 + 1]? = some (.cells #[.int .i64 ep, .slice none 0 0] 33 (0, 0)) := by
    have := alloc_at ((w.alloc (.cells #[.int .i64 ep, .slice p n ca] 41)).alloc (.cells #[.int .i64 0, .slice none 0 0] 33)) (.cells #[.int .i64 ep, .slice none 0 0] 33)
    rw [hw0] at this
    simpa using this
  have HRS := Lib.hid (show w0.cell? ⟨w.heap.size + 1, 0, none⟩ = some (.int .i64 0) ∧ w0.cell? ⟨w.heap.size + 1, 1, none⟩ = some (.slice none 0 0) ∧ w0.frozen? ⟨w.heap.size + 1, 0, none⟩ = false ∧ w0.frozen? ⟨w.heap.size + 1, 1, none⟩ = false ∧ w0.heap[w.heap.size + 1]? = some (.cells #[.int .i64 0, .slice none 0 0] 33 (0, 0)) by
    rw [← hw0]
    exact ⟨by simp [go_sem], by simp [go_sem], by simp [go_sem], by simp [go_sem], by rw [Below.heap_alloc _ _ _ (by simp)]; have := alloc_at (w.alloc (.cells #[.int .i64 ep, .slice p n ca] 41)) (.cells #[.int .i64 0, .slice none 0 0] 33); simpa using this⟩)
  have HST := Lib.hid (show MdB w0 76 ep (w.heap.size + 1 + 1) L 0 w0 from ⟨KeptF.refl _ _, _, hnb, OwnK.nil KS _ _ _⟩)
  have HW0 := Lib.hid hw0
  clear hnb hN hp hz0 hw0
  go_enter Try.func29, Try.ntmps29
  go_wp2_with fail
  rw [HW0.out]
  go_loopw [4] (fun i wr => ∃ k : Nat, i = .int .i64 k ∧ k ≤ n ∧ Hid (MdB w0 76 ep (w.heap.size + 1 + 1) L k wr)) (fun i _ => n - (RowKit.intOf i).toNat)
  case atStart => exact ⟨0, rfl, Nat.zero_le _, HST⟩
  case round =>
    obtain ⟨k, rfl, hkn, HI⟩ := hrel
    obtain ⟨hkb, kx0, kx1⟩ := HBX.out
    have x0 := (HI.out.kept.cell (p := ⟨w.heap.size, 0, none⟩) hkb (by show ¬ w.heap.size = _; omega)).trans kx0
    have x1 := (HI.out.kept.cell (p := ⟨w.heap.size, 1, none⟩) hkb (by show ¬ w.heap.size = _; omega)).trans kx1
    clear kx0 kx1
    rcases Nat.lt_or_ge k n with hk | hk
    · have hkz : (k : Int) < (n : Int) := by omega
      have hklt : k < L.length := by rw [HN.out]; exact hk
      obtain ⟨e, he⟩ : ∃ e, L.getD k default = e := ⟨_, rfl⟩
      have hRr : RowK KS wr p L := HR.out.kept HI.out.kept (fun a ha => by
        rcases HPB.out a ha with h1 | h1
        · show ¬ a.block = _
          omega
        · rw [h1] at hklt; simp at hklt)
      obtain ⟨pb, po, rfl, hpb, hcell⟩ := hRr.cells (Below.refl _ _) hklt
      rw [he] at hcell
      have HTK := Lib.hid (show L.take (k + 1) = L.take k ++ [e] by
        rw [List.take_succ_eq_append_getElem hklt, ← he]
        simp [List.getD, hklt])
      have HLK := Lib.hid (show (L.take k).length = k by rw [List.length_take]; omega)
      obtain ⟨v, hv, hown⟩ := HI.out.row
      have HOW := Lib.hid hown
      have HV := Lib.hid hv
      have o1 : wr.cell? ⟨w.heap.size + 1 + 1, 1, none⟩ = some v := by simp [World.cell?, hv]
      have hzr := HI.out.kept.size
      have HON := Lib.hid (show ∀ w3 : World, RowK KS (w3.alloc (.cells #[.string e.sp.f, .string e.sp.t, .int .i64 e.n, .int .i64 e.e] 76)) (some ⟨w3.heap.size, 0, none⟩) [e] from fun w3 => RowK.block KS (L := [e]) (alloc_at w3 _))
      obtain ⟨⟨ef, et⟩, en, ee⟩ := e
      have z0 := hcell 0 (by decide)
      have z1 := hcell 1 (by decide)
      have z2 := hcell 2 (by decide)
      have z3 := hcell 3 (by decide)
      simp only [KS, Nat.add_zero] at z0 z1 z2 z3
      clear hcell he hv hown hRr
      have hpos : (0 : Int) ≤ (k : Int) := by omega
      go_upto_region 5 with fail
      obtain ⟨q, c, rfl, _⟩ := HOW.out.row
      have HNO := Lib.hid (show ∀ g, (Value.slice q (L.take k).length c).ownBlock = some g → w0.heap.size ≤ g from fun g hg => (HOW.out.ltB g hg).1)
      have HX := Lib.hid x1
      have HZ4 := Lib.hid (And.intro z0 (And.intro z1 (And.intro z2 z3)))
      have HKN := Lib.hid hkz
      have HF1 := Lib.hid (show w.heap.size < wr.heap.size ∧ ¬ (w.heap.size = w.heap.size + 1 + 1 ∨ (Value.slice q (L.take k).length c).ownBlock = some w.heap.size) from ⟨by have := HZ.out; omega, fun h => by
        rcases h with h | h
        · omega
        · have := HNO.out _ h; have := HZ.out; omega⟩)
      have HF2 := Lib.hid (show pb < wr.heap.size ∧ ¬ (pb = w.heap.size + 1 + 1 ∨ (Value.slice q (L.take k).length c).ownBlock = some pb) from ⟨hpb, fun h => by
        rcases HPB.out _ rfl with h1 | h1
        · have h1 : pb < w.heap.size := h1
          rcases h with h | h
          · omega
          · have := HNO.out _ h; have := HZ.out; omega
        · rw [h1] at hklt; simp at hklt⟩)
      clear x0 x1 z0 z1 z2 z3 o1
      refine wp_region_app mixedAt (by kernel_rfl) (K := KS) (t := 76) (B := w0.heap.size) (v0 := (.slice q (L.take k).length c)) (X := (L.take k)) (M := [⟨⟨ef, et⟩, en, ee⟩])
        [some (.pointer (some ⟨w.heap.size + 1 + 1, 1, none⟩)), some (.slice q (L.take k).length c), some (.pointer (some ⟨w.heap.size, 1, none⟩)), some (.slice (some ⟨pb, po, none⟩) n ca), some (.int .i64 k), some (.pointer (some ⟨pb, po + k * 4, none⟩)), some (.pointer (some ⟨pb, po + k * 4, none⟩)), some (.agg #[.string ef, .string et]), some (.pointer (some ⟨w.heap.size, 1, none⟩)), some (.slice (some ⟨pb, po, none⟩) n ca), some (.int .i64 k), some (.pointer (some ⟨pb, po + k * 4, none⟩)), some (.pointer (some ⟨pb, po + k * 4 + 2, none⟩)), some (.int .i64 en), some (.pointer (some ⟨w.heap.size, 1, none⟩)), some (.slice (some ⟨pb, po, none⟩) n ca), some (.int .i64 k), some (.pointer (some ⟨pb, po + k * 4, none⟩)), some (.pointer (some ⟨pb, po + k * 4 + 3, none⟩)), some (.int .i64 ee), some (.agg #[.string ef, .string et, .int .i64 en, .int .i64 ee]), none, none, some (.pointer (some ⟨w.heap.size + 1 + 1, 1, none⟩)), none]
        21 22 24 (by kernel_rfl) (by kernel_rfl) (by decide) (by decide) ⟨rfl, rfl, rfl⟩ (w.heap.size + 1 + 1) 1 #[.int .i64 ep, .slice q (L.take k).length c] 33 (0, 0) HV.out (fun e => by have := HNO.out _ e; have := HZ.out; omega) HOW.out HI.out.kept.size ?_ ?_ ?_ ?_ ?_
      · intro i opr Ls vals w' hi hL hdep hC hK hob hV n1 n2 n3
        have hlt : i < 25 := by have := (List.getElem?_eq_some_iff.1 hi).1; simpa using this
        generalize hA : frA _ _ Ls vals = a'
        have hT1 : a'.tmps.getD 1 undef = .pointer (some ⟨w.heap.size, 0, none⟩) := by rw [← hA, frA_base (by kernel_rfl)]; rfl
        have hT3 : a'.tmps.getD 3 undef = .pointer (some ⟨w.heap.size + 1 + 1, 0, none⟩) := by rw [← hA, frA_base (by kernel_rfl)]; rfl
        have hT4 : a'.tmps.getD 4 undef = .int .i64 k := by rw [← hA, frA_base (by kernel_rfl)]; rfl
        have hD := Lib.hid (fun k t (hk : Ls k = true) (ht : dstOf _ k = some t) => hA ▸ frA_done (by kernel_rfl) (vals := vals) hk ht)
        clear hA
        have x1' := (hK.cell (p := ⟨w.heap.size, 1, none⟩) HF1.out.1 HF1.out.2).trans HX.out
        have z0' := (hK.cell (p := ⟨pb, po + k * 4, none⟩) HF2.out.1 HF2.out.2).trans HZ4.out.1
        have z1' := (hK.cell (p := ⟨pb, po + k * 4 + 1, none⟩) HF2.out.1 HF2.out.2).trans HZ4.out.2.1
        have z2' := (hK.cell (p := ⟨pb, po + k * 4 + 2, none⟩) HF2.out.1 HF2.out.2).trans HZ4.out.2.2.1
        have z3' := (hK.cell (p := ⟨pb, po + k * 4 + 3, none⟩) HF2.out.1 HF2.out.2).trans HZ4.out.2.2.2
        have hkn' : (k : Int) < (n : Int) := HKN.out
        obtain rfl | rfl | rfl | rfl | rfl | rfl | rfl | rfl | rfl | rfl | rfl | rfl | rfl | rfl | rfl | rfl | rfl | rfl | rfl | rfl | rfl | rfl : i = 0 ∨ i = 1 ∨ i = 2 ∨ i = 3 ∨ i = 4 ∨ i = 5 ∨ i = 6 ∨ i = 7 ∨ i = 8 ∨ i = 9 ∨ i = 10 ∨ i = 11 ∨ i = 12 ∨ i = 13 ∨ i = 14 ∨ i = 15 ∨ i = 16 ∨ i = 17 ∨ i = 18 ∨ i = 19 ∨ i = 20 ∨ i = 23 := by omega
        all_goals
          injection hi with hi
          subst hi
          try simp [Region.binds] at hdep
        · exact step_run rfl (v := .pointer (some ⟨w.heap.size + 1 + 1, 1, none⟩)) (w' := w') (by go_simp) ⟨EqV.self rfl, rfl⟩
        · have d15 := hD.out 0 15 (by simp [hdep]) rfl
          rw [show vals 0 = _ from (hV 0 (by simp [hdep])).of rfl] at d15
          have hno : Ls 24 = false := by
            cases h : Ls 24 with
            | false => rfl
            | true => have := hC.path [24, 22, 1] (by kernel_rfl) 24 rfl h 1 rfl; rw [hL] at this; cases this
          have ob1 := hob hno
          have ob2 : w'.cell? ⟨w.heap.size + 1 + 1, 1, none⟩ = some (.slice q (L.take k).length c) := by simp [World.cell?, ob1]
          clear ob1
          exact step_run rfl (v := .slice q (L.take k).length c) (w' := w') (by go_simp) ⟨EqV.self rfl, rfl⟩
        · exact step_run rfl (v := .pointer (some ⟨w.heap.size, 1, none⟩)) (w' := w') (by go_simp) ⟨EqV.self rfl, rfl⟩
        · have d17 := hD.out 2 17 (by simp [hdep]) rfl
          rw [show vals 2 = _ from (hV 2 (by simp [hdep])).of rfl] at d17
          exact step_run rfl (v := .slice (some ⟨pb, po, none⟩) n ca) (w' := w') (by go_simp) ⟨EqV.self rfl, rfl⟩
        · exact step_run rfl (v := .int .i64 k) (w' := w') (by go_simp) ⟨EqV.self rfl, rfl⟩
        · have d18 := hD.out 3 18 (by simp [hdep]) rfl
          rw [show vals 3 = _ from (hV 3 (by simp [hdep])).of rfl] at d18
          have d19 := hD.out 4 19 (by simp [hdep]) rfl
          rw [show vals 4 = _ from (hV 4 (by simp [hdep])).of rfl] at d19
          exact step_run rfl (v := .pointer (some ⟨pb, po + k * 4, none⟩)) (w' := w') (by go_simp) ⟨EqV.self rfl, rfl⟩
        · have d20 := hD.out 5 20 (by simp [hdep]) rfl
          rw [show vals 5 = _ from (hV 5 (by simp [hdep])).of rfl] at d20
          exact step_run rfl (v := .pointer (some ⟨pb, po + k * 4, none⟩)) (w' := w') (by go_simp) ⟨EqV.self rfl, rfl⟩
        · have d21 := hD.out 6 21 (by simp [hdep]) rfl
          rw [show vals 6 = _ from (hV 6 (by simp [hdep])).of rfl] at d21
          exact step_run rfl (v := .agg #[.string ef, .string et]) (w' := w') (by go_simp) ⟨EqV.self rfl, rfl⟩
        · exact step_run rfl (v := .pointer (some ⟨w.heap.size, 1, none⟩)) (w' := w') (by go_simp) ⟨EqV.self rfl, rfl⟩
        · have d23 := hD.out 8 23 (by simp [hdep]) rfl
          rw [show vals 8 = _ from (hV 8 (by simp [hdep])).of rfl] at d23
          exact step_run rfl (v := .slice (some ⟨pb, po, none⟩) n ca) (w' := w') (by go_simp) ⟨EqV.self rfl, rfl⟩
        · exact step_run rfl (v := .int .i64 k) (w' := w') (by go_simp) ⟨EqV.self rfl, rfl⟩
        · have d24 := hD.out 9 24 (by simp [hdep]) rfl
          rw [show vals 9 = _ from (hV 9 (by simp [hdep])).of rfl] at d24
          have d25 := hD.out 10 25 (by simp [hdep]) rfl
          rw [show vals 10 = _ from (hV 10 (by simp [hdep])).of rfl] at d25
          exact step_run rfl (v := .pointer (some ⟨pb, po + k * 4, none⟩)) (w' := w') (by go_simp) ⟨EqV.self rfl, rfl⟩
        · have d26 := hD.out 11 26 (by simp [hdep]) rfl
          rw [show vals 11 = _ from (hV 11 (by simp [hdep])).of rfl] at d26
          exact step_run rfl (v := .pointer (some ⟨pb, po + k * 4 + 2, none⟩)) (w' := w') (by go_simp) ⟨EqV.self rfl, rfl⟩
        · have d27 := hD.out 12 27 (by simp [hdep]) rfl
          rw [show vals 12 = _ from (hV 12 (by simp [hdep])).of rfl] at d27
          exact step_run rfl (v := .int .i64 en) (w' := w') (by go_simp) ⟨EqV.self rfl, rfl⟩
        · exact step_run rfl (v := .pointer (some ⟨w.heap.size, 1, none⟩)) (w' := w') (by go_simp) ⟨EqV.self rfl, rfl⟩
        · have d29 := hD.out 14 29 (by simp [hdep]) rfl
          rw [show vals 14 = _ from (hV 14 (by simp [hdep])).of rfl] at d29
          exact step_run rfl (v := .slice (some ⟨pb, po, none⟩) n ca) (w' := w') (by go_simp) ⟨EqV.self rfl, rfl⟩
        · exact step_run rfl (v := .int .i64 k) (w' := w') (by go_simp) ⟨EqV.self rfl, rfl⟩
        · have d30 := hD.out 15 30 (by simp [hdep]) rfl
          rw [show vals 15 = _ from (hV 15 (by simp [hdep])).of rfl] at d30
          have d31 := hD.out 16 31 (by simp [hdep]) rfl
          rw [show vals 16 = _ from (hV 16 (by simp [hdep])).of rfl] at d31
          exact step_run rfl (v := .pointer (some ⟨pb, po + k * 4, none⟩)) (w' := w') (by go_simp) ⟨EqV.self rfl, rfl⟩
        · have d32 := hD.out 17 32 (by simp [hdep]) rfl
          rw [show vals 17 = _ from (hV 17 (by simp [hdep])).of rfl] at d32
          exact step_run rfl (v := .pointer (some ⟨pb, po + k * 4 + 3, none⟩)) (w' := w') (by go_simp) ⟨EqV.self rfl, rfl⟩
        · have d33 := hD.out 18 33 (by simp [hdep]) rfl
          rw [show vals 18 = _ from (hV 18 (by simp [hdep])).of rfl] at d33
          exact step_run rfl (v := .int .i64 ee) (w' := w') (by go_simp) ⟨EqV.self rfl, rfl⟩
        · have d22 := hD.out 7 22 (by simp [hdep]) rfl
          rw [show vals 7 = _ from (hV 7 (by simp [hdep])).of rfl] at d22
          have d28 := hD.out 13 28 (by simp [hdep]) rfl
          rw [show vals 13 = _ from (hV 13 (by simp [hdep])).of rfl] at d28
          have d34 := hD.out 19 34 (by simp [hdep]) rfl
          rw [show vals 19 = _ from (hV 19 (by simp [hdep])).of rfl] at d34
          rw [Array.getD_eq_getD_getElem?] at d22 d28 d34
          exact step_run rfl (v := .agg #[.string ef, .string et, .int .i64 en, .int .i64 ee]) (w' := w') (by go_simp) ⟨EqV.self rfl, rfl⟩
        · exact step_run rfl (v := .pointer (some ⟨w.heap.size + 1 + 1, 1, none⟩)) (w' := w') (by go_simp) ⟨EqV.self rfl, rfl⟩
      · intro opr Ls vals w' hi hdep hC hV
        generalize hA : frA _ _ Ls vals = a'
        have hT1 : a'.tmps.getD 1 undef = .pointer (some ⟨w.heap.size, 0, none⟩) := by rw [← hA, frA_base (by kernel_rfl)]; rfl
        have hT3 : a'.tmps.getD 3 undef = .pointer (some ⟨w.heap.size + 1 + 1, 0, none⟩) := by rw [← hA, frA_base (by kernel_rfl)]; rfl
        have hT4 : a'.tmps.getD 4 undef = .int .i64 k := by rw [← hA, frA_base (by kernel_rfl)]; rfl
        have hD := Lib.hid (fun k t (hk : Ls k = true) (ht : dstOf _ k = some t) => hA ▸ frA_done (by kernel_rfl) (vals := vals) hk ht)
        clear hA
        injection hi with hi
        subst hi
        simp [Region.binds] at hdep
        have d35 := hD.out 20 35 (by simp [hdep]) rfl
        rw [show vals 20 = _ from (hV 20 (by simp [hdep])).of rfl] at d35
        rw [Array.getD_eq_getD_getElem?] at d35
        exact step_run rfl (v := .slice (some ⟨w'.heap.size, 0, none⟩) 1 1) (w' := w'.alloc (.cells #[.string ef, .string et, .int .i64 en, .int .i64 ee] 76)) (by go_simp) ⟨rfl, rfl⟩
      · intro opr Ls vals w' b hi hdep hC hLb hV hb hrow hown hBw
        generalize hA : frA _ _ Ls vals = a'
        have hT1 : a'.tmps.getD 1 undef = .pointer (some ⟨w.heap.size, 0, none⟩) := by rw [← hA, frA_base (by kernel_rfl)]; rfl
        have hT3 : a'.tmps.getD 3 undef = .pointer (some ⟨w.heap.size + 1 + 1, 0, none⟩) := by rw [← hA, frA_base (by kernel_rfl)]; rfl
        have hT4 : a'.tmps.getD 4 undef = .int .i64 k := by rw [← hA, frA_base (by kernel_rfl)]; rfl
        have hD := Lib.hid (fun k t (hk : Ls k = true) (ht : dstOf _ k = some t) => hA ▸ frA_done (by kernel_rfl) (vals := vals) hk ht)
        clear hA
        injection hi with hi
        subst hi
        simp [Region.binds] at hdep
        have d16 := hD.out 1 16 (by simp [hdep]) rfl
        rw [show vals 1 = _ from (hV 1 (by simp [hdep])).of rfl] at d16
        have d36 := hD.out 21 36 (by simp [hdep]) rfl
        rw [hb] at d36
        exact stepI_app_k skt_ref rfl _ _ rfl d16 hown _ _ _ d36 hrow (fun h => by cases h) (by have := HLK.out; simp only [List.length_cons, List.length_nil]; omega) hBw fun v' w'' h1 h2 h3 => ⟨h1, h2, h3⟩
      · intro opr Ls vals w' q5 c5 hi hdep hC hLa hV hv hob
        generalize hA : frA _ _ Ls vals = a'
        have hT1 : a'.tmps.getD 1 undef = .pointer (some ⟨w.heap.size, 0, none⟩) := by rw [← hA, frA_base (by kernel_rfl)]; rfl
        have hT3 : a'.tmps.getD 3 undef = .pointer (some ⟨w.heap.size + 1 + 1, 0, none⟩) := by rw [← hA, frA_base (by kernel_rfl)]; rfl
        have hT4 : a'.tmps.getD 4 undef = .int .i64 k := by rw [← hA, frA_base (by kernel_rfl)]; rfl
        have hD := Lib.hid (fun k t (hk : Ls k = true) (ht : dstOf _ k = some t) => hA ▸ frA_done (by kernel_rfl) (vals := vals) hk ht)
        clear hA
        injection hi with hi
        subst hi
        simp [Region.binds] at hdep
        have d38 := hD.out 23 38 (by simp [hdep]) rfl
        rw [show vals 23 = _ from (hV 23 (by simp [hdep])).of rfl] at d38
        have d37 := hD.out 22 37 (by simp [hdep]) rfl
        rw [hv] at d37
        have c1 : w'.cell? ⟨w.heap.size + 1 + 1, 1, none⟩ = some (.slice q (L.take k).length c) := by simp [World.cell?, hob]
        have f1 : w'.frozen? ⟨w.heap.size + 1 + 1, 1, none⟩ = false := by simp [World.frozen?, hob]
        clear hob
        exact stepI_skip rfl (w' := w'.setCell ⟨w.heap.size + 1 + 1, 1, none⟩ (.slice q5 ((L.take k) ++ ([⟨⟨ef, et⟩, en, ee⟩] : List Sd)).length c5)) (by go_simp) rfl
      · intro vals w4 hK hob hown hV
        have e0 : vals 0 = .pointer (some ⟨w.heap.size + 1 + 1, 1, none⟩) := (hV 0 (by decide)).of rfl
        have e1 : vals 1 = .slice q (L.take k).length c := (hV 1 (by decide)).of rfl
        have e2 : vals 2 = .pointer (some ⟨w.heap.size, 1, none⟩) := (hV 2 (by decide)).of rfl
        have e3 : vals 3 = .slice (some ⟨pb, po, none⟩) n ca := (hV 3 (by decide)).of rfl
        have e4 : vals 4 = .int .i64 k := (hV 4 (by decide)).of rfl
        have e5 : vals 5 = .pointer (some ⟨pb, po + k * 4, none⟩) := (hV 5 (by decide)).of rfl
        have e6 : vals 6 = .pointer (some ⟨pb, po + k * 4, none⟩) := (hV 6 (by decide)).of rfl
        have e7 : vals 7 = .agg #[.string ef, .string et] := (hV 7 (by decide)).of rfl
        have e8 : vals 8 = .pointer (some ⟨w.heap.size, 1, none⟩) := (hV 8 (by decide)).of rfl
        have e9 : vals 9 = .slice (some ⟨pb, po, none⟩) n ca := (hV 9 (by decide)).of rfl
        have e10 : vals 10 = .int .i64 k := (hV 10 (by decide)).of rfl
        have e11 : vals 11 = .pointer (some ⟨pb, po + k * 4, none⟩) := (hV 11 (by decide)).of rfl
        have e12 : vals 12 = .pointer (some ⟨pb, po + k * 4 + 2, none⟩) := (hV 12 (by decide)).of rfl
        have e13 : vals 13 = .int .i64 en := (hV 13 (by decide)).of rfl
        have e14 : vals 14 = .pointer (some ⟨w.heap.size, 1, none⟩) := (hV 14 (by decide)).of rfl
        have e15 : vals 15 = .slice (some ⟨pb, po, none⟩) n ca := (hV 15 (by decide)).of rfl
        have e16 : vals 16 = .int .i64 k := (hV 16 (by decide)).of rfl
        have e17 : vals 17 = .pointer (some ⟨pb, po + k * 4, none⟩) := (hV 17 (by decide)).of rfl
        have e18 : vals 18 = .pointer (some ⟨pb, po + k * 4 + 3, none⟩) := (hV 18 (by decide)).of rfl
        have e19 : vals 19 = .int .i64 ee := (hV 19 (by decide)).of rfl
        have e20 : vals 20 = .agg #[.string ef, .string et, .int .i64 en, .int .i64 ee] := (hV 20 (by decide)).of rfl
        have e23 : vals 23 = .pointer (some ⟨w.heap.size + 1 + 1, 1, none⟩) := (hV 23 (by decide)).of rfl
        have e_b : True := trivial
        have HQ := Lib.hid (show MdB w0 76 ep (w.heap.size + 1 + 1) L (k + 1) w4 from ⟨HI.out.kept.trans hK (fun i hi h => h.elim id fun h => by have := HNO.out _ h; omega), vals 22, hob, by rw [HTK.out]; exact hown⟩)
        simp only [putsL, Act.put, List.setIfInBounds_toArray, List.set_cons_zero, List.set_cons_succ, e0, e1, e2, e3, e4, e5, e6, e7, e8, e9, e10, e11, e12, e13, e14, e15, e16, e17, e18, e19, e20, e23]
        clear e_b e0 e1 e2 e3 e4 e5 e6 e7 e8 e9 e10 e11 e12 e13 e14 e15 e16 e17 e18 e19 e20 e23
        clear hK hob hown hV
        go_wp2_with fail
        exact ⟨⟨k + 1, by go_num, hk, HQ⟩, by simp [RowKit.intOf]; omega⟩
    · have hkz : ¬ (k : Int) < (n : Int) := by omega
      have hke : k = n := by omega
      obtain ⟨v, hv, hown⟩ := HI.out.row
      have HOW := Lib.hid hown
      have HKP := Lib.hid HI.out.kept
      have o0 : wr.cell? ⟨w.heap.size + 1 + 1, 0, none⟩ = some (.int .i64 ep) := by simp [World.cell?, hv]
      have o1 : wr.cell? ⟨w.heap.size + 1 + 1, 1, none⟩ = some v := by simp [World.cell?, hv]
      have hrb := (HKP.out.block (w.heap.size + 1) (by have := HZ.out; omega) (by show ¬ w.heap.size + 1 = _; omega)).trans HRS.out.2.2.2.2
      have r0 : wr.cell? ⟨w.heap.size + 1, 0, none⟩ = some (.int .i64 0) := by simp [World.cell?, hrb]
      have r1 : wr.cell? ⟨w.heap.size + 1, 1, none⟩ = some (.slice none 0 0) := by simp [World.cell?, hrb]
      have f0 : wr.frozen? ⟨w.heap.size + 1, 0, none⟩ = false := by simp [World.frozen?, hrb]
      have f1 : wr.frozen? ⟨w.heap.size + 1, 1, none⟩ = false := by simp [World.frozen?, hrb]
      have HKE := Lib.hid hke
      clear hv hown hrb hke HI
      obtain ⟨q, c, rfl, _⟩ := HOW.out.row
      go_wp2_with fail
      refine bodyPost_ret (v := .agg #[.int .i64 ep, .slice q (L.take k).length c]) (by simp [results, Try.results29, go_sem, r0, r1]) rfl ⟨_, rfl, ?_, ?_⟩
      · have h1 : OwnK KS wr w0.heap.size 76 (.slice q (L.take k).length c) L := by
          have e : L.take k = L := List.take_of_length_le (by rw [HN.out, HKE.out]; exact Nat.le_refl _)
          have := HOW.out
          rw [e] at this ⊢
          exact this
        have hno : ∀ g, (Value.slice q (L.take k).length c).ownBlock = some g → w0.heap.size ≤ g := fun g hg => (HOW.out.ltB g hg).1
        have hz := HZ.out
        exact ((h1.setCell (fun e => by have h : w0.heap.size ≤ w.heap.size + 1 := hno _ e; omega) _).setCell (fun e => by have h : w0.heap.size ≤ w.heap.size + 1 := hno _ e; omega) _).mono (by omega)
      · have h1 : Below w.heap.size w wr := HB0.out.trans (HKP.out.below (B := w.heap.size) (fun j h => by have : j = _ := h; omega) (by have := HZ.out; omega))
        exact (h1.setCell (by show w.heap.size ≤ w.heap.size + 1; omega) _).setCell (by show w.heap.size ≤ w.heap.size + 1; omega) _
end Go.Proofs.Ytfadpiipigkocaa
