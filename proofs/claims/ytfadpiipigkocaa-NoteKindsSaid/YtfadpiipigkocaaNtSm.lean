/-
  Layer note, the law's: are two notes the same?
-/
import Derived.Test.YtfadpiipigkocaaMg22
import Derived.Test.YtfadpiipigkocaaMg20
import Derived.Test.YtfadpiipigkocaaMg18
import Derived.Test.YtfadpiipigkocaaMg23
import Derived.Test.YtfadpiipigkocaaMg07
import Derived.Deep.QuietTactic
import Derived.BigQuiet
import Derived.Deep.DeepCutAuto
import Derived.Deep.CutRange
namespace Go.Proofs.Ytfadpiipigkocaa
open Go.RowKit Go.Gz

theorem eq_spanN (n : Nat) (a b a' b' : ByteArray) (w : World) : (Op.equalIn (n + 2) 29 (.agg #[.string a, .string b]) (.agg #[.string a', .string b'])).run Try.prog w = .ok (decide (a.toList = a'.toList) && decide (b.toList = b'.toList)) w := by
  by_cases h1 : a.toList = a'.toList
  · by_cases h2 : b.toList = b'.toList
    · simp [go_sem, h1, h2]
    · simp [go_sem, h1, h2]
  · simp [go_sem, h1]
def vrEn (X : List Ent) : VP := ⟨fun v w => ∃ p c, v = .slice p X.length c ∧ RowE w p X, fun _ _ _ ⟨p, c, h1, h2⟩ hb => ⟨p, c, h1, h2.below hb⟩⟩
def vrAl (ep : Int) (L : List Sd) : VP := ⟨fun v w => ∃ p c, v = .agg #[.int .i64 ep, .slice p L.length c] ∧ RowK KS w p L, fun _ _ _ ⟨p, c, h1, h2⟩ hb => ⟨p, c, h1, h2.below hb⟩⟩

set_option maxHeartbeats 32000000 in
set_option maxRecDepth 100000 in
theorem same_n (a b : NtL) (P Q : NtP) (w : World) (B : Bool) (hB : B = true ↔ NtSame a b) (ha : NtIn w a P) (hb : NtIn w b Q) (hEa : EntsIn w a.la) (hEb : EntsIn w b.la) (hra : a.rep.ls.length ≤ 300) (hrb : b.rep.ls.length ≤ 300) (hla : a.ls.length ≤ 1000000) (hlb : b.ls.length ≤ 1000000) (hma : a.la.length ≤ 2000) (hmb : b.la.length ≤ 2000) (hsa : a.sh.length ≤ 1000000) (hsb : b.sh.length ≤ 1000000) :
    Calls Try.prog 12 #[ntV a P, ntV b Q] w fun e w' => e = .returned (.bool B) ∧ Below w.heap.size w w' := by
  obtain ⟨kd, fr, to_, ep, tk, ⟨ad, ac, as_, at_, av, af, au, am⟩, ⟨rc, rs, re, rfd, rv, rls, rnx, rmr⟩, sf, st, ls, la, ae, sh⟩ := a
  obtain ⟨kd', fr', to_', ep', tk', ⟨ad', ac', as_', at_', av', af', au', am'⟩, ⟨rc', rs', re', rfd', rv', rls', rnx', rmr'⟩, sf', st', ls', la', ae', sh'⟩ := b
  simp only at hEa hEb hra hrb hla hlb hma hmb hsa hsb
  have HRa := Lib.hid ha.rs
  have HRb := Lib.hid hb.rs
  have HLa := Lib.hid ha.ls
  have HLb := Lib.hid hb.ls
  have HMa := Lib.hid ha.la
  have HMb := Lib.hid hb.la
  have HSa := Lib.hid ha.sh
  have HSb := Lib.hid hb.sh
  simp only at HRa HRb HLa HLb HMa HMb HSa HSb
  have HQ := Lib.hid (show B = true ↔ (kd = kd' ∧ fr = fr' ∧ to_ = to_' ∧ ep = ep' ∧ tk = tk' ∧ (⟨ad, ac, as_, at_, av, af, au, am⟩ : AskL) = (⟨ad', ac', as_', at_', av', af', au', am'⟩ : AskL) ∧ (⟨rc, rs, re, rfd, rv, rls, rnx, rmr⟩ : RepL) = (⟨rc', rs', re', rfd', rv', rls', rnx', rmr'⟩ : RepL) ∧ (sf = sf' ∧ st = st') ∧ ls = ls' ∧ semL la = semL la' ∧ (ae = ae' ∧ sh = sh')) from hB.trans ⟨fun ⟨h1, h2, h3, h4, h5, h6, h7, h8, h9, h10, h11, h12, h13⟩ => ⟨h1, h2, h3, h4, h5, h6, h7, ⟨h8, h9⟩, h10, h11, h12, h13⟩, fun ⟨h1, h2, h3, h4, h5, h6, h7, ⟨h8, h9⟩, h10, h11, h12, h13⟩ => ⟨h1, h2, h3, h4, h5, h6, h7, h8, h9, h10, h11, h12, h13⟩⟩)
  have hsr : ∀ w1, Below w.heap.size w w1 → ∀ q : Bool, (q = true ↔ (⟨rc, rs, re, rfd, rv, rls, rnx, rmr⟩ : RepL) = (⟨rc', rs', re', rfd', rv', rls', rnx', rmr'⟩ : RepL)) → Calls Try.prog 16 #[repV (⟨rc, rs, re, rfd, rv, rls, rnx, rmr⟩ : RepL) P.rp P.rk, repV (⟨rc', rs', re', rfd', rv', rls', rnx', rmr'⟩ : RepL) Q.rp Q.rk] w1 fun e w' => e = .returned (.bool q) ∧ Below w1.heap.size w1 w' := fun w1 h1 q hq => same_reply _ _ _ _ _ _ w1 q hq (HRa.out.below h1) (HRb.out.below h1) hra hrb
  have HSR := Lib.hid hsr
  clear hsr
  obtain ⟨n, hn⟩ : ∃ n, ls.length = n := ⟨_, rfl⟩
  obtain ⟨n', hn'⟩ : ∃ n, ls'.length = n := ⟨_, rfl⟩
  obtain ⟨m, hm⟩ : ∃ n, la.length = n := ⟨_, rfl⟩
  obtain ⟨m', hm'⟩ : ∃ n, la'.length = n := ⟨_, rfl⟩
  obtain ⟨h, hh⟩ : ∃ n, sh.length = n := ⟨_, rfl⟩
  obtain ⟨h', hh'⟩ : ∃ n, sh'.length = n := ⟨_, rfl⟩
  have HN := Lib.hid hn
  have HN' := Lib.hid hn'
  have HM := Lib.hid hm
  have HM' := Lib.hid hm'
  have HH := Lib.hid hh
  have HH' := Lib.hid hh'
  have C12 := Lib.hid (show ∀ w1, Below w.heap.size w w1 → Calls Try.prog 27 #[.slice P.ap m P.ak] w1 (RetCv w1 66 la) from fun w1 h1 => hm ▸ back_any w1 la P.ap P.ak (HMa.out.below h1) hma)
  have C12' := Lib.hid (show ∀ w1, Below w.heap.size w w1 → Calls Try.prog 27 #[.slice Q.ap m' Q.ak] w1 (RetCv w1 66 la') from fun w1 h1 => hm' ▸ back_any w1 la' Q.ap Q.ak (HMb.out.below h1) hmb)
  have C14 := Lib.hid (show ∀ w1, Below w.heap.size w w1 → Calls Try.prog 29 #[.agg #[.int .i64 ae, .slice P.hp h P.hk]] w1 (RetA w1 76 ae sh) from fun w1 h1 => hh ▸ atback_any w1 ae sh P.hp P.hk (HSa.out.below h1) hsa)
  have C14' := Lib.hid (show ∀ w1, Below w.heap.size w w1 → Calls Try.prog 29 #[.agg #[.int .i64 ae', .slice Q.hp h' Q.hk]] w1 (RetA w1 76 ae' sh') from fun w1 h1 => hh' ▸ atback_any w1 ae' sh' Q.hp Q.hk (HSb.out.below h1) hsb)
  have CSE := Lib.hid (show ∀ w1 p q ca cb, Below w.heap.size w w1 → RowE w1 p la → RowE w1 q la' → Calls Try.prog 26 #[.slice p la.length ca, .slice q la'.length cb] w1 (RetSa w1 la la') from fun w1 p q ca cb h1 h2 h3 => sameE_any w1 la la' p q ca cb h2 h3 (hEa.below h1) (hEb.below h1) hma hmb)
  have CSA := Lib.hid (show ∀ w1 p q ca cb, Below w.heap.size w w1 → RowK KS w1 p sh → RowK KS w1 q sh' → ∀ q1 : Bool, (q1 = true ↔ (ae = ae' ∧ sh = sh')) → Calls Try.prog 28 #[.agg #[.int .i64 ae, .slice p sh.length ca], .agg #[.int .i64 ae', .slice q sh'.length cb]] w1 fun e w' => e = .returned (.bool q1) ∧ Below w1.heap.size w1 w' from fun w1 p q ca cb _ h2 h3 q1 hq => sameAt_any ae ae' sh sh' p q ca cb w1 q1 hq h2 h3 hsa hsb)
  have hnb : (n : Int) ≤ 1000000 := by omega
  unfold ntV
  obtain ⟨ca, hca⟩ : ∃ c, (ntList (⟨kd, fr, to_, ep, tk, (⟨ad, ac, as_, at_, av, af, au, am⟩ : AskL), (⟨rc, rs, re, rfd, rv, rls, rnx, rmr⟩ : RepL), sf, st, ls, la, ae, sh⟩ : NtL) P).toArray = c := ⟨_, rfl⟩
  have A0 := Lib.hid (show ca[0]? = some (.int .i64 kd) by rw [← hca]; rfl)
  have A1 := Lib.hid (show ca[1]? = some (.int .i64 fr) by rw [← hca]; rfl)
  have A2 := Lib.hid (show ca[2]? = some (.int .i64 to_) by rw [← hca]; rfl)
  have A3 := Lib.hid (show ca[3]? = some (.int .i64 ep) by rw [← hca]; rfl)
  have A4 := Lib.hid (show ca[4]? = some (.int .i64 tk) by rw [← hca]; rfl)
  have A5 := Lib.hid (show ca[5]? = some (.int .i64 ad) by rw [← hca]; rfl)
  have A6 := Lib.hid (show ca[6]? = some (.int .i64 ac) by rw [← hca]; rfl)
  have A7 := Lib.hid (show ca[7]? = some (.int .i64 as_) by rw [← hca]; rfl)
  have A8 := Lib.hid (show ca[8]? = some (.string (strB at_)) by rw [← hca]; rfl)
  have A9 := Lib.hid (show ca[9]? = some (.string (strB av)) by rw [← hca]; rfl)
  have A10 := Lib.hid (show ca[10]? = some (.string (strB af)) by rw [← hca]; rfl)
  have A11 := Lib.hid (show ca[11]? = some (.string (strB au)) by rw [← hca]; rfl)
  have A12 := Lib.hid (show ca[12]? = some (.int .i64 am) by rw [← hca]; rfl)
  have A13 := Lib.hid (show ca[13]? = some (.int .i64 rc) by rw [← hca]; rfl)
  have A14 := Lib.hid (show ca[14]? = some (.int .i64 rs) by rw [← hca]; rfl)
  have A15 := Lib.hid (show ca[15]? = some (.int .i64 re) by rw [← hca]; rfl)
  have A16 := Lib.hid (show ca[16]? = some (.bool rfd) by rw [← hca]; rfl)
  have A17 := Lib.hid (show ca[17]? = some (.string (strB rv)) by rw [← hca]; rfl)
  have A18 := Lib.hid (show ca[18]? = some (.slice P.rp rls.length P.rk) by rw [← hca]; rfl)
  have A19 := Lib.hid (show ca[19]? = some (.string (strB rnx)) by rw [← hca]; rfl)
  have A20 := Lib.hid (show ca[20]? = some (.bool rmr) by rw [← hca]; rfl)
  have A21 := Lib.hid (show ca[21]? = some (.string (strB sf)) by rw [← hca]; rfl)
  have A22 := Lib.hid (show ca[22]? = some (.string (strB st)) by rw [← hca]; rfl)
  have A23 := Lib.hid (show ca[23]? = some (.slice P.lp n P.lk) by rw [← hca, ← hn]; rfl)
  have A24 := Lib.hid (show ca[24]? = some (.slice P.ap m P.ak) by rw [← hca, ← hm]; rfl)
  have A25 := Lib.hid (show ca[25]? = some (.int .i64 ae) by rw [← hca]; rfl)
  have A26 := Lib.hid (show ca[26]? = some (.slice P.hp h P.hk) by rw [← hca, ← hh]; rfl)
  rw [hca]
  obtain ⟨cb, hcb⟩ : ∃ c, (ntList (⟨kd', fr', to_', ep', tk', (⟨ad', ac', as_', at_', av', af', au', am'⟩ : AskL), (⟨rc', rs', re', rfd', rv', rls', rnx', rmr'⟩ : RepL), sf', st', ls', la', ae', sh'⟩ : NtL) Q).toArray = c := ⟨_, rfl⟩
  have B0 := Lib.hid (show cb[0]? = some (.int .i64 kd') by rw [← hcb]; rfl)
  have B1 := Lib.hid (show cb[1]? = some (.int .i64 fr') by rw [← hcb]; rfl)
  have B2 := Lib.hid (show cb[2]? = some (.int .i64 to_') by rw [← hcb]; rfl)
  have B3 := Lib.hid (show cb[3]? = some (.int .i64 ep') by rw [← hcb]; rfl)
  have B4 := Lib.hid (show cb[4]? = some (.int .i64 tk') by rw [← hcb]; rfl)
  have B5 := Lib.hid (show cb[5]? = some (.int .i64 ad') by rw [← hcb]; rfl)
  have B6 := Lib.hid (show cb[6]? = some (.int .i64 ac') by rw [← hcb]; rfl)
  have B7 := Lib.hid (show cb[7]? = some (.int .i64 as_') by rw [← hcb]; rfl)
  have B8 := Lib.hid (show cb[8]? = some (.string (strB at_')) by rw [← hcb]; rfl)
  have B9 := Lib.hid (show cb[9]? = some (.string (strB av')) by rw [← hcb]; rfl)
  have B10 := Lib.hid (show cb[10]? = some (.string (strB af')) by rw [← hcb]; rfl)
  have B11 := Lib.hid (show cb[11]? = some (.string (strB au')) by rw [← hcb]; rfl)
  have B12 := Lib.hid (show cb[12]? = some (.int .i64 am') by rw [← hcb]; rfl)
  have B13 := Lib.hid (show cb[13]? = some (.int .i64 rc') by rw [← hcb]; rfl)
  have B14 := Lib.hid (show cb[14]? = some (.int .i64 rs') by rw [← hcb]; rfl)
  have B15 := Lib.hid (show cb[15]? = some (.int .i64 re') by rw [← hcb]; rfl)
  have B16 := Lib.hid (show cb[16]? = some (.bool rfd') by rw [← hcb]; rfl)
  have B17 := Lib.hid (show cb[17]? = some (.string (strB rv')) by rw [← hcb]; rfl)
  have B18 := Lib.hid (show cb[18]? = some (.slice Q.rp rls'.length Q.rk) by rw [← hcb]; rfl)
  have B19 := Lib.hid (show cb[19]? = some (.string (strB rnx')) by rw [← hcb]; rfl)
  have B20 := Lib.hid (show cb[20]? = some (.bool rmr') by rw [← hcb]; rfl)
  have B21 := Lib.hid (show cb[21]? = some (.string (strB sf')) by rw [← hcb]; rfl)
  have B22 := Lib.hid (show cb[22]? = some (.string (strB st')) by rw [← hcb]; rfl)
  have B23 := Lib.hid (show cb[23]? = some (.slice Q.lp n' Q.lk) by rw [← hcb, ← hn']; rfl)
  have B24 := Lib.hid (show cb[24]? = some (.slice Q.ap m' Q.ak) by rw [← hcb, ← hm']; rfl)
  have B25 := Lib.hid (show cb[25]? = some (.int .i64 ae') by rw [← hcb]; rfl)
  have B26 := Lib.hid (show cb[26]? = some (.slice Q.hp h' Q.hk) by rw [← hcb, ← hh']; rfl)
  rw [hcb]
  have hcs : ca.size = 27 := by rw [← hca]; rfl
  have hcs' : cb.size = 27 := by rw [← hcb]; rfl
  obtain ⟨W, hW⟩ : ∃ W, (w.alloc (.cells ca 43)).alloc (.cells cb 43) = W := ⟨_, rfl⟩
  have HZ := Lib.hid (show W.heap.size = w.heap.size + 2 by rw [← hW]; simp)
  have HC := Lib.hid (show ∀ wr, Below W.heap.size W wr → (∀ i, wr.cell? ⟨w.heap.size, i, none⟩ = ca[i]?) ∧ (∀ i, wr.cell? ⟨w.heap.size + 1, i, none⟩ = cb[i]?) from fun wr hb => two_boxes (w := w) (wr := wr) (by rw [hW, ← HZ.out]; exact hb))
  have HBW := Lib.hid (show Below w.heap.size w W by rw [← hW]; exact ((Below.refl _ _).alloc (Nat.le_refl _) _).alloc (by simp) _)
  have HW := Lib.hid hW
  clear hca hcb hcs hcs' hW hB ha hb hEa hEb hra hrb hla hlb hma hmb hsa hsb hn hn' hm hm' hh hh'
  go_enter Try.func12, Try.ntmps12
  go_upto_region 1 with fail
  rw [HW.out]
  have c0 := ((HC.out W (Below.refl _ _)).1 0).trans A0.out
  have d0 := ((HC.out W (Below.refl _ _)).2 0).trans B0.out
  by_cases hne : kd = kd'
  case neg =>
    obtain rfl : B = false := by
      cases B
      · rfl
      · exact absurd ((HQ.out.1 rfl).1) hne
    go_wp2_with fail
    go_ret
    exact ⟨rfl, HBW.out⟩
  subst hne
  have c1 := ((HC.out W (Below.refl _ _)).1 1).trans A1.out
  have d1 := ((HC.out W (Below.refl _ _)).2 1).trans B1.out
  by_cases hne : fr = fr'
  case neg =>
    obtain rfl : B = false := by
      cases B
      · rfl
      · exact absurd ((HQ.out.1 rfl).2.1) hne
    go_wp2_with fail
    go_ret
    exact ⟨rfl, HBW.out⟩
  subst hne
  have c2 := ((HC.out W (Below.refl _ _)).1 2).trans A2.out
  have d2 := ((HC.out W (Below.refl _ _)).2 2).trans B2.out
  by_cases hne : to_ = to_'
  case neg =>
    obtain rfl : B = false := by
      cases B
      · rfl
      · exact absurd ((HQ.out.1 rfl).2.2.1) hne
    go_wp2_with fail
    go_ret
    exact ⟨rfl, HBW.out⟩
  subst hne
  have c3 := ((HC.out W (Below.refl _ _)).1 3).trans A3.out
  have d3 := ((HC.out W (Below.refl _ _)).2 3).trans B3.out
  by_cases hne : ep = ep'
  case neg =>
    obtain rfl : B = false := by
      cases B
      · rfl
      · exact absurd ((HQ.out.1 rfl).2.2.2.1) hne
    go_wp2_with fail
    go_ret
    exact ⟨rfl, HBW.out⟩
  subst hne
  have c4 := ((HC.out W (Below.refl _ _)).1 4).trans A4.out
  have d4 := ((HC.out W (Below.refl _ _)).2 4).trans B4.out
  by_cases hne : tk = tk'
  case neg =>
    obtain rfl : B = false := by
      cases B
      · rfl
      · exact absurd ((HQ.out.1 rfl).2.2.2.2.1) hne
    go_wp2_with fail
    go_ret
    exact ⟨rfl, HBW.out⟩
  subst hne
  have c5 := ((HC.out W (Below.refl _ _)).1 5).trans A5.out
  have d5 := ((HC.out W (Below.refl _ _)).2 5).trans B5.out
  have c6 := ((HC.out W (Below.refl _ _)).1 6).trans A6.out
  have d6 := ((HC.out W (Below.refl _ _)).2 6).trans B6.out
  have c7 := ((HC.out W (Below.refl _ _)).1 7).trans A7.out
  have d7 := ((HC.out W (Below.refl _ _)).2 7).trans B7.out
  have c8 := ((HC.out W (Below.refl _ _)).1 8).trans A8.out
  have d8 := ((HC.out W (Below.refl _ _)).2 8).trans B8.out
  have c9 := ((HC.out W (Below.refl _ _)).1 9).trans A9.out
  have d9 := ((HC.out W (Below.refl _ _)).2 9).trans B9.out
  have c10 := ((HC.out W (Below.refl _ _)).1 10).trans A10.out
  have d10 := ((HC.out W (Below.refl _ _)).2 10).trans B10.out
  have c11 := ((HC.out W (Below.refl _ _)).1 11).trans A11.out
  have d11 := ((HC.out W (Below.refl _ _)).2 11).trans B11.out
  have c12 := ((HC.out W (Below.refl _ _)).1 12).trans A12.out
  have d12 := ((HC.out W (Below.refl _ _)).2 12).trans B12.out
  obtain ⟨qa, hqa⟩ : ∃ q, (decide (ad = ad') && (decide (ac = ac') && (decide (as_ = as_') && (decide ((strB at_).toList = (strB at_').toList) && (decide ((strB av).toList = (strB av').toList) && (decide ((strB af).toList = (strB af').toList) && (decide ((strB au).toList = (strB au').toList) && decide (am = am')))))))) = q := ⟨_, rfl⟩
  have hqe : ∀ w, (Op.equalIn 10000 23 (.agg #[.int .i64 ad, .int .i64 ac, .int .i64 as_, .string (strB at_), .string (strB av), .string (strB af), .string (strB au), .int .i64 am]) (.agg #[.int .i64 ad', .int .i64 ac', .int .i64 as_', .string (strB at_'), .string (strB av'), .string (strB af'), .string (strB au'), .int .i64 am'])).run Try.prog w = .ok qa w := fun w => by
    rw [← hqa]
    exact eq_ask 9998 _ _ _ _ _ _ _ _ _ _ _ _ _ _ _ _ w
  have HQA := Lib.hid (show qa = true ↔ (⟨ad, ac, as_, at_, av, af, au, am⟩ : AskL) = (⟨ad', ac', as_', at_', av', af', au', am'⟩ : AskL) by
    rw [← hqa]
    simp only [Bool.and_eq_true, decide_eq_true_eq, toList_strB, AskL.mk.injEq])
  clear hqa
  by_cases hne : (⟨ad, ac, as_, at_, av, af, au, am⟩ : AskL) = (⟨ad', ac', as_', at_', av', af', au', am'⟩ : AskL)
  case neg =>
    obtain rfl : B = false := by
      cases B
      · rfl
      · exact absurd ((HQ.out.1 rfl).2.2.2.2.2.1) hne
    obtain rfl : qa = false := by
      cases qa
      · rfl
      · exact absurd (HQA.out.1 rfl) hne
    clear hne
    go_wp2_with fail
    go_ret
    exact ⟨rfl, HBW.out⟩
  obtain rfl : qa = true := HQA.out.2 hne
  have HEA := Lib.hid hne
  clear hne
  have c13 := ((HC.out W (Below.refl _ _)).1 13).trans A13.out
  have d13 := ((HC.out W (Below.refl _ _)).2 13).trans B13.out
  have c14 := ((HC.out W (Below.refl _ _)).1 14).trans A14.out
  have d14 := ((HC.out W (Below.refl _ _)).2 14).trans B14.out
  have c15 := ((HC.out W (Below.refl _ _)).1 15).trans A15.out
  have d15 := ((HC.out W (Below.refl _ _)).2 15).trans B15.out
  have c16 := ((HC.out W (Below.refl _ _)).1 16).trans A16.out
  have d16 := ((HC.out W (Below.refl _ _)).2 16).trans B16.out
  have c17 := ((HC.out W (Below.refl _ _)).1 17).trans A17.out
  have d17 := ((HC.out W (Below.refl _ _)).2 17).trans B17.out
  have c18 := ((HC.out W (Below.refl _ _)).1 18).trans A18.out
  have d18 := ((HC.out W (Below.refl _ _)).2 18).trans B18.out
  have c19 := ((HC.out W (Below.refl _ _)).1 19).trans A19.out
  have d19 := ((HC.out W (Below.refl _ _)).2 19).trans B19.out
  have c20 := ((HC.out W (Below.refl _ _)).1 20).trans A20.out
  have d20 := ((HC.out W (Below.refl _ _)).2 20).trans B20.out
  by_cases hne : (⟨rc, rs, re, rfd, rv, rls, rnx, rmr⟩ : RepL) = (⟨rc', rs', re', rfd', rv', rls', rnx', rmr'⟩ : RepL)
  case neg =>
    obtain rfl : B = false := by
      cases B
      · rfl
      · exact absurd ((HQ.out.1 rfl).2.2.2.2.2.2.1) hne
    have CR := Lib.hid (HSR.out W HBW.out false ⟨fun h => (by cases h), fun h => absurd h hne⟩)
    unfold repV at CR
    simp only at CR
    clear hne
    go_wp2_with fail
    refine CR.out.mono ?_
    rintro e w1 ⟨rfl, hb1⟩
    have HB1 := Lib.hid (HBW.out.trans (hb1.mono HBW.out.size))
    clear hb1
    go_wp2_with fail
    go_ret
    exact ⟨rfl, HB1.out⟩
  have CR := Lib.hid (HSR.out W HBW.out true ⟨fun _ => hne, fun _ => rfl⟩)
  have HER := Lib.hid hne
  unfold repV at CR
  simp only at CR
  clear hne
  go_wp2_with fail
  refine CR.out.mono ?_
  rintro e w1 ⟨rfl, hb1⟩
  have HW1 := Lib.hid hb1
  have HB1 := Lib.hid (HBW.out.trans (hb1.mono HBW.out.size))
  clear hb1 hqe
  clear c0 d0 c1 d1 c2 d2 c3 d3 c4 d4 c5 d5 c6 d6 c7 d7 c8 d8 c9 d9 c10 d10 c11 d11 c12 d12 c13 d13 c14 d14 c15 d15 c16 d16 c17 d17 c18 d18 c19 d19 c20 d20
  have c21 := ((HC.out w1 (HW1.out)).1 21).trans A21.out
  have d21 := ((HC.out w1 (HW1.out)).2 21).trans B21.out
  have c22 := ((HC.out w1 (HW1.out)).1 22).trans A22.out
  have d22 := ((HC.out w1 (HW1.out)).2 22).trans B22.out
  obtain ⟨qs, hqs⟩ : ∃ q, (decide ((strB sf).toList = (strB sf').toList) && decide ((strB st).toList = (strB st').toList)) = q := ⟨_, rfl⟩
  have hqe : ∀ w, (Op.equalIn 10000 29 (.agg #[.string (strB sf), .string (strB st)]) (.agg #[.string (strB sf'), .string (strB st')])).run Try.prog w = .ok qs w := fun w => by
    rw [← hqs]
    exact eq_spanN 9998 _ _ _ _ w
  have HQS := Lib.hid (show qs = true ↔ (sf = sf' ∧ st = st') by
    rw [← hqs]
    simp only [Bool.and_eq_true, decide_eq_true_eq, toList_strB])
  clear hqs
  by_cases hne : sf = sf' ∧ st = st'
  case neg =>
    obtain rfl : B = false := by
      cases B
      · rfl
      · exact absurd ((HQ.out.1 rfl).2.2.2.2.2.2.2.1) hne
    obtain rfl : qs = false := by
      cases qs
      · rfl
      · exact absurd (HQS.out.1 rfl) hne
    clear hne
    go_wp2_with fail
    go_ret
    exact ⟨rfl, HB1.out⟩
  obtain rfl : qs = true := HQS.out.2 hne
  have HES := Lib.hid hne
  clear hne
  have c23 := ((HC.out w1 (HW1.out)).1 23).trans A23.out
  have d23 := ((HC.out w1 (HW1.out)).2 23).trans B23.out
  by_cases hne : n = n'
  case neg =>
    obtain rfl : B = false := by
      cases B
      · rfl
      · have h1 := (HQ.out.1 rfl).2.2.2.2.2.2.2.2.1
        rw [h1, HN'.out] at HN
        exact absurd HN.out.symm hne
    go_wp2_with fail
    go_ret
    exact ⟨rfl, HB1.out⟩
  subst hne
  go_wp2_with fail
  clear c21 d21 c22 d22 c23 d23 hqe
  have hq : ∀ a b a' b' w, (Op.equalIn 10000 47 (.agg #[.string a, .string b]) (.agg #[.string a', .string b'])).run Try.prog w = .ok (decide (a.toList = a'.toList) && decide (b.toList = b'.toList)) w := fun a b a' b' w => eq_rec 9998 a b a' b' w
  go_loopw [5] (fun i wr => ∃ k : Nat, k ≤ n ∧ i = .int .i64 k ∧ Hid (∀ j, j < k → ls.getD j ([], []) = ls'.getD j ([], [])) ∧ Hid (Below w1.heap.size w1 wr)) (fun i _ => n - (RowKit.intOf i).toNat)
  case atStart => exact ⟨0, Nat.zero_le _, rfl, Lib.hid (fun j hj => by omega), Lib.hid (Below.refl _ _)⟩
  case round =>
    obtain ⟨k, hk, rfl, HA, HBm⟩ := hrel
    have HBZ := Lib.hid (HW1.out.trans (HBm.out.mono HW1.out.size))
    have c23 := ((HC.out _ HBZ.out).1 23).trans A23.out
    have d23 := ((HC.out _ HBZ.out).2 23).trans B23.out
    by_cases hlt : k < n
    · have hltz : (k : Int) < (n : Int) := by omega
      have HR := Lib.hid (HLa.out.below HB1.out)
      have HR' := Lib.hid (HLb.out.below HB1.out)
      obtain ⟨b, o, hpe, hbl, r1, r2⟩ := rec_cell HR.out HBm.out (show k < ls.length by rw [HN.out]; exact hlt)
      obtain ⟨b', o', hpe', hbl', r1', r2'⟩ := rec_cell HR'.out HBm.out (show k < ls'.length by rw [HN'.out]; exact hlt)
      rw [hpe] at c23
      rw [hpe'] at d23
      obtain ⟨q, hqq⟩ : ∃ q, (decide ((strB (ls.getD k ([], [])).1).toList = (strB (ls'.getD k ([], [])).1).toList) && decide ((strB (ls.getD k ([], [])).2).toList = (strB (ls'.getD k ([], [])).2).toList)) = q := ⟨_, rfl⟩
      have HG := Lib.hid hqq
      generalize strB (ls.getD k ([], [])).1 = s1 at r1 hqq
      generalize strB (ls.getD k ([], [])).2 = s2 at r2 hqq
      generalize strB (ls'.getD k ([], [])).1 = s1' at r1' hqq
      generalize strB (ls'.getD k ([], [])).2 = s2' at r2' hqq
      have hqs := hq s1 s2 s1' s2'
      rw [hqq] at hqs
      clear hqq hbl hbl' hq hpe hpe'
      cases q with
      | true =>
        go_wp2_with fail
        go_big_quiet (fail)
        have HBq := Lib.hid (below_drewN HBm.out nq)
        go_wp2_with fail
        go_roundw
        case rel => exact ⟨k + 1, by omega, by go_num, Lib.hid (fun j hj => by
          rcases Nat.lt_or_ge j k with h | h
          · exact HA.out j h
          · obtain rfl : j = k := by omega
            have h2 := HG.out
            simp only [Bool.and_eq_true, decide_eq_true_eq, toList_strB] at h2
            exact Prod.ext h2.1 h2.2), HBq⟩
        case measure => simp [RowKit.intOf]; omega
      | false =>
        obtain rfl : B = false := by
          cases B
          · rfl
          · have h2 := HG.out
            rw [(HQ.out.1 rfl).2.2.2.2.2.2.2.2.1] at h2
            simp at h2
        go_wp2_with fail
        go_big_quiet (fail)
        have HBq := Lib.hid (below_drewN HBm.out nq)
        go_wp2_with fail
        go_ret
        exact ⟨rfl, HB1.out.trans (HBq.out.mono HB1.out.size)⟩
    · obtain rfl : k = n := by omega
      have hltz : ¬ (k : Int) < (k : Int) := by omega
      have HEL := Lib.hid (show ls = ls' from list_same HN.out HN'.out HA.out)
      have HB5 := Lib.hid (HB1.out.trans (HBm.out.mono HB1.out.size))
      clear hq
      go_upto_region 8 with fail
      clear c23 d23
      obtain ⟨q1, hq1⟩ : ∃ q : Bool, q = true ↔ semL la = semL la' := by
        by_cases h : semL la = semL la'
        · exact ⟨true, by simp [h]⟩
        · exact ⟨false, by simp [h]⟩
      obtain ⟨q2, hq2⟩ : ∃ q : Bool, q = true ↔ (ae = ae' ∧ sh = sh') := by
        by_cases h : ae = ae' ∧ sh = sh'
        · exact ⟨true, by simp [h]⟩
        · exact ⟨false, by simp [h]⟩
      have HQ1 := Lib.hid hq1
      have HQ2 := Lib.hid hq2
      obtain rfl : B = (q1 && q2) := by
        rw [Bool.eq_iff_iff, Bool.and_eq_true]
        refine HQ.out.trans ⟨fun h => ⟨hq1.2 (h.2.2.2.2.2.2.2.2.2.1), hq2.2 (h.2.2.2.2.2.2.2.2.2.2)⟩, fun h => ⟨by trivial, by trivial, by trivial, by trivial, by trivial, HEA.out, HER.out, HES.out, HEL.out, hq1.1 h.1, hq2.1 h.2⟩⟩
      clear hq1 hq2 hlt hltz hk
      cases q1 with
    | true =>
      refine wp_region_mono mixedAt (by kernel_rfl) [VP.eq (.pointer (some ⟨w.heap.size, 24, none⟩)), VP.eq (.slice P.ap m P.ak), vrEn la, VP.eq (.pointer (some ⟨w.heap.size + 1, 24, none⟩)), VP.eq (.slice Q.ap m' Q.ak), vrEn la', VP.eq (.bool true), VP.eq (.bool true), VP.eq (.pointer (some ⟨w.heap.size, 25, none⟩)), VP.eq (.agg #[.int .i64 ae, .slice P.hp h P.hk]), vrAl ae sh, VP.eq (.pointer (some ⟨w.heap.size + 1, 25, none⟩)), VP.eq (.agg #[.int .i64 ae', .slice Q.hp h' Q.hk]), vrAl ae' sh', VP.eq (.bool q2), VP.eq (.bool q2), VP.eq (.bool q2)] ?_ ?_
      · intro i opr Ls vals w' hi hL' hdep hC hB hV
        have hlt : i < 17 := by have := (List.getElem?_eq_some_iff.1 hi).1; simpa using this
        generalize hA : frA _ _ Ls vals = a'
        have hT2 : a'.tmps.getD 2 undef = .pointer (some ⟨w.heap.size, 0, none⟩) := by rw [← hA, frA_base (by kernel_rfl)]; rfl
        have hT3 : a'.tmps.getD 3 undef = .pointer (some ⟨w.heap.size + 1, 0, none⟩) := by rw [← hA, frA_base (by kernel_rfl)]; rfl
        have hD := Lib.hid (fun k t (hk : Ls k = true) (ht : dstOf _ k = some t) => hA ▸ frA_done (by kernel_rfl) (vals := vals) hk ht)
        clear hA
        have hbb := HB5.out.trans (hB.mono HB5.out.size)
        have hzz := HBZ.out.trans (hB.mono HBZ.out.size)
        have c24 := ((HC.out w' hzz).1 24).trans A24.out
        have c25 := ((HC.out w' hzz).1 25).trans A25.out
        have c26 := ((HC.out w' hzz).1 26).trans A26.out
        have e24 := ((HC.out w' hzz).2 24).trans B24.out
        have e25 := ((HC.out w' hzz).2 25).trans B25.out
        have e26 := ((HC.out w' hzz).2 26).trans B26.out
        obtain rfl | rfl | rfl | rfl | rfl | rfl | rfl | rfl | rfl | rfl | rfl | rfl | rfl | rfl | rfl | rfl | rfl : i = 0 ∨ i = 1 ∨ i = 2 ∨ i = 3 ∨ i = 4 ∨ i = 5 ∨ i = 6 ∨ i = 7 ∨ i = 8 ∨ i = 9 ∨ i = 10 ∨ i = 11 ∨ i = 12 ∨ i = 13 ∨ i = 14 ∨ i = 15 ∨ i = 16 := by omega
        all_goals
          injection hi with hi
          subst hi
          try simp [Region.binds] at hdep
        · skip
          exact step_run rfl (v := .pointer (some ⟨w.heap.size, 24, none⟩)) (w' := w') (by go_simp) ⟨rfl, Below.refl _ _⟩
        · skip
          have d88 := hD.out 0 88 (by simp [hdep]) rfl
          rw [show vals 0 = _ from hV 0 (by simp [hdep])] at d88
          exact step_run rfl (v := .slice P.ap m P.ak) (w' := w') (by go_simp) ⟨rfl, Below.refl _ _⟩
        · skip
          have d89 := hD.out 1 89 (by simp [hdep]) rfl
          rw [show vals 1 = _ from hV 1 (by simp [hdep])] at d89
          exact step_enter rfl (f := 27) (args := #[.slice P.ap m P.ak]) (w' := w') (by go_simp) ((C12.out w' hbb).mono fun e w'' ⟨v, he, ho, hb⟩ => ⟨v, he, by obtain ⟨p7, c7, e7, -, -, h7, -⟩ := ho.row; exact ⟨p7, c7, e7, h7⟩, hb⟩)
        · skip
          exact step_run rfl (v := .pointer (some ⟨w.heap.size + 1, 24, none⟩)) (w' := w') (by go_simp) ⟨rfl, Below.refl _ _⟩
        · skip
          have d91 := hD.out 3 91 (by simp [hdep]) rfl
          rw [show vals 3 = _ from hV 3 (by simp [hdep])] at d91
          exact step_run rfl (v := .slice Q.ap m' Q.ak) (w' := w') (by go_simp) ⟨rfl, Below.refl _ _⟩
        · skip
          have d92 := hD.out 4 92 (by simp [hdep]) rfl
          rw [show vals 4 = _ from hV 4 (by simp [hdep])] at d92
          exact step_enter rfl (f := 27) (args := #[.slice Q.ap m' Q.ak]) (w' := w') (by go_simp) ((C12'.out w' hbb).mono fun e w'' ⟨v, he, ho, hb⟩ => ⟨v, he, by obtain ⟨p7, c7, e7, -, -, h7, -⟩ := ho.row; exact ⟨p7, c7, e7, h7⟩, hb⟩)
        · skip
          have d90 := hD.out 2 90 (by simp [hdep]) rfl
          obtain ⟨ppa, cca, ev, g1a⟩ : (vrEn la).f (vals 2) w' := hV 2 (by simp [hdep])
          rw [ev] at d90
          have d93 := hD.out 5 93 (by simp [hdep]) rfl
          obtain ⟨ppb, ccb, ev, g1b⟩ : (vrEn la').f (vals 5) w' := hV 5 (by simp [hdep])
          rw [ev] at d93
          exact step_enter rfl (f := 26) (args := #[.slice ppa la.length cca, .slice ppb la'.length ccb]) (w' := w') (by go_simp) ((CSE.out w' ppa ppb cca ccb hbb g1a g1b).mono fun e w'' ⟨b, he, h1, hb⟩ => ⟨.bool b, he, by rw [show b = true by have h2 := HQ1.out; cases b <;> simp_all]; rfl, hb⟩)
        · skip
          have d94 := hD.out 6 94 (by simp [hdep]) rfl
          rw [show vals 6 = _ from hV 6 (by simp [hdep])] at d94
          exact step_run rfl (v := .bool true) (w' := w') (by go_simp) ⟨rfl, Below.refl _ _⟩
        · skip
          have d95 := hD.out 7 95 (by simp [hdep]) rfl
          rw [show vals 7 = _ from hV 7 (by simp [hdep])] at d95
          exact step_run' (wanted_open rfl rfl d95) (v := .pointer (some ⟨w.heap.size, 25, none⟩)) (w' := w') (by go_simp) ⟨rfl, Below.refl _ _⟩
        · skip
          have d95 := hD.out 7 95 (by simp [hdep]) rfl
          rw [show vals 7 = _ from hV 7 (by simp [hdep])] at d95
          have d96 := hD.out 8 96 (by simp [hdep]) rfl
          rw [show vals 8 = _ from hV 8 (by simp [hdep])] at d96
          exact step_run' (wanted_open rfl rfl d95) (v := .agg #[.int .i64 ae, .slice P.hp h P.hk]) (w' := w') (by go_simp) ⟨rfl, Below.refl _ _⟩
        · skip
          have d95 := hD.out 7 95 (by simp [hdep]) rfl
          rw [show vals 7 = _ from hV 7 (by simp [hdep])] at d95
          have d97 := hD.out 9 97 (by simp [hdep]) rfl
          rw [show vals 9 = _ from hV 9 (by simp [hdep])] at d97
          exact step_enter' (wanted_open rfl rfl d95) (f := 29) (args := #[.agg #[.int .i64 ae, .slice P.hp h P.hk]]) (w' := w') (by go_simp) ((C14.out w' hbb).mono fun e w'' ⟨v, he, ho, hb⟩ => ⟨_, he, by obtain ⟨p7, c7, e7, -, -, h7, -⟩ := ho.row; exact ⟨p7, c7, by rw [e7], h7⟩, hb⟩)
        · skip
          have d95 := hD.out 7 95 (by simp [hdep]) rfl
          rw [show vals 7 = _ from hV 7 (by simp [hdep])] at d95
          exact step_run' (wanted_open rfl rfl d95) (v := .pointer (some ⟨w.heap.size + 1, 25, none⟩)) (w' := w') (by go_simp) ⟨rfl, Below.refl _ _⟩
        · skip
          have d95 := hD.out 7 95 (by simp [hdep]) rfl
          rw [show vals 7 = _ from hV 7 (by simp [hdep])] at d95
          have d99 := hD.out 11 99 (by simp [hdep]) rfl
          rw [show vals 11 = _ from hV 11 (by simp [hdep])] at d99
          exact step_run' (wanted_open rfl rfl d95) (v := .agg #[.int .i64 ae', .slice Q.hp h' Q.hk]) (w' := w') (by go_simp) ⟨rfl, Below.refl _ _⟩
        · skip
          have d95 := hD.out 7 95 (by simp [hdep]) rfl
          rw [show vals 7 = _ from hV 7 (by simp [hdep])] at d95
          have d100 := hD.out 12 100 (by simp [hdep]) rfl
          rw [show vals 12 = _ from hV 12 (by simp [hdep])] at d100
          exact step_enter' (wanted_open rfl rfl d95) (f := 29) (args := #[.agg #[.int .i64 ae', .slice Q.hp h' Q.hk]]) (w' := w') (by go_simp) ((C14'.out w' hbb).mono fun e w'' ⟨v, he, ho, hb⟩ => ⟨_, he, by obtain ⟨p7, c7, e7, -, -, h7, -⟩ := ho.row; exact ⟨p7, c7, by rw [e7], h7⟩, hb⟩)
        · skip
          have d95 := hD.out 7 95 (by simp [hdep]) rfl
          rw [show vals 7 = _ from hV 7 (by simp [hdep])] at d95
          have d98 := hD.out 10 98 (by simp [hdep]) rfl
          obtain ⟨ppa, cca, ev, g1a⟩ : (vrAl ae sh).f (vals 10) w' := hV 10 (by simp [hdep])
          rw [ev] at d98
          have d101 := hD.out 13 101 (by simp [hdep]) rfl
          obtain ⟨ppb, ccb, ev, g1b⟩ : (vrAl ae' sh').f (vals 13) w' := hV 13 (by simp [hdep])
          rw [ev] at d101
          exact step_enter' (wanted_open rfl rfl d95) (f := 28) (args := #[.agg #[.int .i64 ae, .slice ppa sh.length cca], .agg #[.int .i64 ae', .slice ppb sh'.length ccb]]) (w' := w') (by go_simp) ((CSA.out w' ppa ppb cca ccb hbb g1a g1b q2 HQ2.out).mono fun e w'' ⟨he, hb⟩ => ⟨.bool q2, he, rfl, hb⟩)
        · skip
          have d95 := hD.out 7 95 (by simp [hdep]) rfl
          rw [show vals 7 = _ from hV 7 (by simp [hdep])] at d95
          have d102 := hD.out 14 102 (by simp [hdep]) rfl
          rw [show vals 14 = _ from hV 14 (by simp [hdep])] at d102
          exact step_run rfl (v := .bool q2) (w' := w') (by go_simp) ⟨rfl, Below.refl _ _⟩
        · skip
          have d103 := hD.out 15 103 (by simp [hdep]) rfl
          rw [show vals 15 = _ from hV 15 (by simp [hdep])] at d103
          exact step_run rfl (v := .bool q2) (w' := w') (by go_simp) ⟨rfl, Below.refl _ _⟩
      · intro vals w9 hB hV
        have e0 : vals 0 = .pointer (some ⟨w.heap.size, 24, none⟩) := hV 0 (by decide)
        have e1 : vals 1 = .slice P.ap m P.ak := hV 1 (by decide)
        obtain ⟨p2, c2, e2, g1_2⟩ : (vrEn la).f (vals 2) w9 := hV 2 (by decide)
        have e3 : vals 3 = .pointer (some ⟨w.heap.size + 1, 24, none⟩) := hV 3 (by decide)
        have e4 : vals 4 = .slice Q.ap m' Q.ak := hV 4 (by decide)
        obtain ⟨p5, c5, e5, g1_5⟩ : (vrEn la').f (vals 5) w9 := hV 5 (by decide)
        have e6 : vals 6 = .bool true := hV 6 (by decide)
        have e7 : vals 7 = .bool true := hV 7 (by decide)
        have e8 : vals 8 = .pointer (some ⟨w.heap.size, 25, none⟩) := hV 8 (by decide)
        have e9 : vals 9 = .agg #[.int .i64 ae, .slice P.hp h P.hk] := hV 9 (by decide)
        obtain ⟨p10, c10, e10, g1_10⟩ : (vrAl ae sh).f (vals 10) w9 := hV 10 (by decide)
        have e11 : vals 11 = .pointer (some ⟨w.heap.size + 1, 25, none⟩) := hV 11 (by decide)
        have e12 : vals 12 = .agg #[.int .i64 ae', .slice Q.hp h' Q.hk] := hV 12 (by decide)
        obtain ⟨p13, c13, e13, g1_13⟩ : (vrAl ae' sh').f (vals 13) w9 := hV 13 (by decide)
        have e14 : vals 14 = .bool q2 := hV 14 (by decide)
        have e15 : vals 15 = .bool q2 := hV 15 (by decide)
        have e16 : vals 16 = .bool q2 := hV 16 (by decide)
        have HB9 := Lib.hid (HB5.out.trans (hB.mono HB5.out.size))
        simp only [putsL, Act.put, List.setIfInBounds_toArray, List.set_cons_zero, List.set_cons_succ, e0, e1, e2, e3, e4, e5, e6, e7, e8, e9, e10, e11, e12, e13, e14, e15, e16]
        clear e0 e1 e2 e3 e4 e5 e6 e7 e8 e9 e10 e11 e12 e13 e14 e15 e16 hB hV
        go_wp2_with fail
        go_ret
        exact ⟨rfl, HB9.out⟩
    | false =>
      refine wp_region_mono mixedAt (by kernel_rfl) [VP.eq (.pointer (some ⟨w.heap.size, 24, none⟩)), VP.eq (.slice P.ap m P.ak), vrEn la, VP.eq (.pointer (some ⟨w.heap.size + 1, 24, none⟩)), VP.eq (.slice Q.ap m' Q.ak), vrEn la', VP.eq (.bool false), VP.eq (.bool false), VP.any, VP.any, VP.any, VP.any, VP.any, VP.any, VP.any, VP.eq (.bool false), VP.eq (.bool false)] ?_ ?_
      · intro i opr Ls vals w' hi hL' hdep hC hB hV
        have hlt : i < 17 := by have := (List.getElem?_eq_some_iff.1 hi).1; simpa using this
        generalize hA : frA _ _ Ls vals = a'
        have hT2 : a'.tmps.getD 2 undef = .pointer (some ⟨w.heap.size, 0, none⟩) := by rw [← hA, frA_base (by kernel_rfl)]; rfl
        have hT3 : a'.tmps.getD 3 undef = .pointer (some ⟨w.heap.size + 1, 0, none⟩) := by rw [← hA, frA_base (by kernel_rfl)]; rfl
        have hD := Lib.hid (fun k t (hk : Ls k = true) (ht : dstOf _ k = some t) => hA ▸ frA_done (by kernel_rfl) (vals := vals) hk ht)
        clear hA
        have hbb := HB5.out.trans (hB.mono HB5.out.size)
        have hzz := HBZ.out.trans (hB.mono HBZ.out.size)
        have c24 := ((HC.out w' hzz).1 24).trans A24.out
        have c25 := ((HC.out w' hzz).1 25).trans A25.out
        have c26 := ((HC.out w' hzz).1 26).trans A26.out
        have e24 := ((HC.out w' hzz).2 24).trans B24.out
        have e25 := ((HC.out w' hzz).2 25).trans B25.out
        have e26 := ((HC.out w' hzz).2 26).trans B26.out
        obtain rfl | rfl | rfl | rfl | rfl | rfl | rfl | rfl | rfl | rfl | rfl | rfl | rfl | rfl | rfl | rfl | rfl : i = 0 ∨ i = 1 ∨ i = 2 ∨ i = 3 ∨ i = 4 ∨ i = 5 ∨ i = 6 ∨ i = 7 ∨ i = 8 ∨ i = 9 ∨ i = 10 ∨ i = 11 ∨ i = 12 ∨ i = 13 ∨ i = 14 ∨ i = 15 ∨ i = 16 := by omega
        all_goals
          injection hi with hi
          subst hi
          try simp [Region.binds] at hdep
        · skip
          exact step_run rfl (v := .pointer (some ⟨w.heap.size, 24, none⟩)) (w' := w') (by go_simp) ⟨rfl, Below.refl _ _⟩
        · skip
          have d88 := hD.out 0 88 (by simp [hdep]) rfl
          rw [show vals 0 = _ from hV 0 (by simp [hdep])] at d88
          exact step_run rfl (v := .slice P.ap m P.ak) (w' := w') (by go_simp) ⟨rfl, Below.refl _ _⟩
        · skip
          have d89 := hD.out 1 89 (by simp [hdep]) rfl
          rw [show vals 1 = _ from hV 1 (by simp [hdep])] at d89
          exact step_enter rfl (f := 27) (args := #[.slice P.ap m P.ak]) (w' := w') (by go_simp) ((C12.out w' hbb).mono fun e w'' ⟨v, he, ho, hb⟩ => ⟨v, he, by obtain ⟨p7, c7, e7, -, -, h7, -⟩ := ho.row; exact ⟨p7, c7, e7, h7⟩, hb⟩)
        · skip
          exact step_run rfl (v := .pointer (some ⟨w.heap.size + 1, 24, none⟩)) (w' := w') (by go_simp) ⟨rfl, Below.refl _ _⟩
        · skip
          have d91 := hD.out 3 91 (by simp [hdep]) rfl
          rw [show vals 3 = _ from hV 3 (by simp [hdep])] at d91
          exact step_run rfl (v := .slice Q.ap m' Q.ak) (w' := w') (by go_simp) ⟨rfl, Below.refl _ _⟩
        · skip
          have d92 := hD.out 4 92 (by simp [hdep]) rfl
          rw [show vals 4 = _ from hV 4 (by simp [hdep])] at d92
          exact step_enter rfl (f := 27) (args := #[.slice Q.ap m' Q.ak]) (w' := w') (by go_simp) ((C12'.out w' hbb).mono fun e w'' ⟨v, he, ho, hb⟩ => ⟨v, he, by obtain ⟨p7, c7, e7, -, -, h7, -⟩ := ho.row; exact ⟨p7, c7, e7, h7⟩, hb⟩)
        · skip
          have d90 := hD.out 2 90 (by simp [hdep]) rfl
          obtain ⟨ppa, cca, ev, g1a⟩ : (vrEn la).f (vals 2) w' := hV 2 (by simp [hdep])
          rw [ev] at d90
          have d93 := hD.out 5 93 (by simp [hdep]) rfl
          obtain ⟨ppb, ccb, ev, g1b⟩ : (vrEn la').f (vals 5) w' := hV 5 (by simp [hdep])
          rw [ev] at d93
          exact step_enter rfl (f := 26) (args := #[.slice ppa la.length cca, .slice ppb la'.length ccb]) (w' := w') (by go_simp) ((CSE.out w' ppa ppb cca ccb hbb g1a g1b).mono fun e w'' ⟨b, he, h1, hb⟩ => ⟨.bool b, he, by rw [show b = false by have h2 := HQ1.out; cases b <;> simp_all]; rfl, hb⟩)
        · skip
          have d94 := hD.out 6 94 (by simp [hdep]) rfl
          rw [show vals 6 = _ from hV 6 (by simp [hdep])] at d94
          exact step_run rfl (v := .bool false) (w' := w') (by go_simp) ⟨rfl, Below.refl _ _⟩
        · skip
          have d95 := hD.out 7 95 (by simp [hdep]) rfl
          rw [show vals 7 = _ from hV 7 (by simp [hdep])] at d95
          exact step_shut (wanted_shut rfl rfl d95 (by decide)) ⟨trivial, Below.refl _ _⟩
        · skip
          have d95 := hD.out 7 95 (by simp [hdep]) rfl
          rw [show vals 7 = _ from hV 7 (by simp [hdep])] at d95
          exact step_shut (wanted_shut rfl rfl d95 (by decide)) ⟨trivial, Below.refl _ _⟩
        · skip
          have d95 := hD.out 7 95 (by simp [hdep]) rfl
          rw [show vals 7 = _ from hV 7 (by simp [hdep])] at d95
          exact step_shut (wanted_shut rfl rfl d95 (by decide)) ⟨trivial, Below.refl _ _⟩
        · skip
          have d95 := hD.out 7 95 (by simp [hdep]) rfl
          rw [show vals 7 = _ from hV 7 (by simp [hdep])] at d95
          exact step_shut (wanted_shut rfl rfl d95 (by decide)) ⟨trivial, Below.refl _ _⟩
        · skip
          have d95 := hD.out 7 95 (by simp [hdep]) rfl
          rw [show vals 7 = _ from hV 7 (by simp [hdep])] at d95
          exact step_shut (wanted_shut rfl rfl d95 (by decide)) ⟨trivial, Below.refl _ _⟩
        · skip
          have d95 := hD.out 7 95 (by simp [hdep]) rfl
          rw [show vals 7 = _ from hV 7 (by simp [hdep])] at d95
          exact step_shut (wanted_shut rfl rfl d95 (by decide)) ⟨trivial, Below.refl _ _⟩
        · skip
          have d95 := hD.out 7 95 (by simp [hdep]) rfl
          rw [show vals 7 = _ from hV 7 (by simp [hdep])] at d95
          exact step_shut (wanted_shut rfl rfl d95 (by decide)) ⟨trivial, Below.refl _ _⟩
        · skip
          have d95 := hD.out 7 95 (by simp [hdep]) rfl
          rw [show vals 7 = _ from hV 7 (by simp [hdep])] at d95
          exact step_run rfl (v := .bool false) (w' := w') (by go_simp) ⟨rfl, Below.refl _ _⟩
        · skip
          have d103 := hD.out 15 103 (by simp [hdep]) rfl
          rw [show vals 15 = _ from hV 15 (by simp [hdep])] at d103
          exact step_run rfl (v := .bool false) (w' := w') (by go_simp) ⟨rfl, Below.refl _ _⟩
      · intro vals w9 hB hV
        have e0 : vals 0 = .pointer (some ⟨w.heap.size, 24, none⟩) := hV 0 (by decide)
        have e1 : vals 1 = .slice P.ap m P.ak := hV 1 (by decide)
        obtain ⟨p2, c2, e2, g1_2⟩ : (vrEn la).f (vals 2) w9 := hV 2 (by decide)
        have e3 : vals 3 = .pointer (some ⟨w.heap.size + 1, 24, none⟩) := hV 3 (by decide)
        have e4 : vals 4 = .slice Q.ap m' Q.ak := hV 4 (by decide)
        obtain ⟨p5, c5, e5, g1_5⟩ : (vrEn la').f (vals 5) w9 := hV 5 (by decide)
        have e6 : vals 6 = .bool false := hV 6 (by decide)
        have e7 : vals 7 = .bool false := hV 7 (by decide)
        have e15 : vals 15 = .bool false := hV 15 (by decide)
        have e16 : vals 16 = .bool false := hV 16 (by decide)
        have HB9 := Lib.hid (HB5.out.trans (hB.mono HB5.out.size))
        simp only [putsL, Act.put, List.setIfInBounds_toArray, List.set_cons_zero, List.set_cons_succ, e0, e1, e2, e3, e4, e5, e6, e7, e15, e16]
        clear e0 e1 e2 e3 e4 e5 e6 e7 e15 e16 hB hV
        go_wp2_with fail
        go_ret
        exact ⟨rfl, HB9.out⟩
end Go.Proofs.Ytfadpiipigkocaa
