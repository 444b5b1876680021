/-
  Layer note: isBare.
-/
import Derived.Test.YtfadpiipigkocaaMg14
import Derived.Test.YtfadpiipigkocaaMg06
import Derived.Deep.DeepCutAuto
import Derived.Deep.CutBlock
import Derived.Deep.CutRange
import Derived.Laws.StructEq
namespace Go.Proofs.Ytfadpiipigkocaa
open Go.RowKit Go.Gz

theorem strE_no {s : ByteArray} (h : ¬ s = ⟨#[]⟩) : (s.toList == []) = false := by
  have : s.toList ≠ [] := fun e => h (by
    rw [ByteArray.toList_eq] at e
    cases s
    simp only [ByteArray.mk.injEq]
    exact Array.toList_inj.1 e)
  simp [this]
theorem strE_no' {s : ByteArray} (h : ¬ s = ⟨#[]⟩) : s.toList.isEmpty = false := by
  have := strE_no h
  cases hl : s.toList with
  | nil => rw [hl] at this; cases this
  | cons x r => rfl
theorem strB_zero {l : List UInt8} : strB l = ⟨#[]⟩ ↔ l = [] := ⟨fun h => strB_inj (show strB l = strB [] from h), fun h => by subst h; rfl⟩
/-- the ask, the reply, the span of nothing. -/
noncomputable def bareB (n : NtL) : Bool := @decide (n.ep = 0 ∧ n.tk = 0 ∧ n.ask = askZ ∧ (n.sf = [] ∧ n.st = []) ∧ n.rep = repZ ∧ (n.ls = [] ∧ n.la = []) ∧ (n.ae = 0 ∧ n.sh = [])) (Classical.propDecidable _)
theorem ask0_eq (n : Nat) (a0 a1 a2 a7 : Int) (a3 a4 a5 a6 : ByteArray) (w : World) :
    (Op.equalIn (n + 2) 23 (.agg #[.int .i64 a0, .int .i64 a1, .int .i64 a2, .string a3, .string a4, .string a5, .string a6, .int .i64 a7]) (.agg #[.int .i64 0, .int .i64 0, .int .i64 0, .string ⟨#[]⟩, .string ⟨#[]⟩, .string ⟨#[]⟩, .string ⟨#[]⟩, .int .i64 0])).run Try.prog w = .ok (decide (a0 = 0 ∧ a1 = 0 ∧ a2 = 0 ∧ a3 = ⟨#[]⟩ ∧ a4 = ⟨#[]⟩ ∧ a5 = ⟨#[]⟩ ∧ a6 = ⟨#[]⟩ ∧ a7 = 0)) w := by
  have hs : ∀ {s : ByteArray}, ¬ s = ⟨#[]⟩ → ¬ s.toList = [] := fun h e => by
    have := strE_no h
    rw [e] at this
    simp at this
  by_cases h0 : a0 = 0
  · by_cases h1 : a1 = 0
    · by_cases h2 : a2 = 0
      · by_cases h3 : a3 = ⟨#[]⟩
        · by_cases h4 : a4 = ⟨#[]⟩
          · by_cases h5 : a5 = ⟨#[]⟩
            · by_cases h6 : a6 = ⟨#[]⟩
              · by_cases h7 : a7 = 0
                · subst h0 h1 h2 h3 h4 h5 h6 h7; simp [go_sem]
                · subst h0 h1 h2 h3 h4 h5 h6; simp [go_sem, h7]
              · have e := hs h6; subst h0 h1 h2 h3 h4 h5; simp [go_sem, h6, e]
            · have e := hs h5; subst h0 h1 h2 h3 h4; simp [go_sem, h5, e]
          · have e := hs h4; subst h0 h1 h2 h3; simp [go_sem, h4, e]
        · have e := hs h3; subst h0 h1 h2; simp [go_sem, h3, e]
      · simp [go_sem, h0, h1, h2]
    · simp [go_sem, h0, h1]
  · simp [go_sem, h0]
theorem span0_eq (n : Nat) (a b : ByteArray) (w : World) : (Op.equalIn (n + 2) 29 (.agg #[.string a, .string b]) (.agg #[.string ⟨#[]⟩, .string ⟨#[]⟩])).run Try.prog w = .ok (decide (a = ⟨#[]⟩ ∧ b = ⟨#[]⟩)) w := by
  have hs : ∀ {s : ByteArray}, ¬ s = ⟨#[]⟩ → ¬ s.toList = [] := fun h e => by
    have := strE_no h
    rw [e] at this
    simp at this
  by_cases h1 : a = ⟨#[]⟩
  · by_cases h2 : b = ⟨#[]⟩
    · subst h1 h2; simp [go_sem]
    · have e := hs h2; subst h1; simp [go_sem, h2, e]
  · have e := hs h1; simp [go_sem, h1, e]

set_option maxHeartbeats 8000000 in
set_option maxRecDepth 100000 in
theorem isBare_any (n : NtL) (P : NtP) (w : World) : Calls Try.prog 37 #[ntV n P] w fun e w' => e = .returned (.bool (bareB n)) ∧ Below w.heap.size w w' := by
  obtain ⟨kd, fr, to_, ep, tk, ask, rep, sf, st, ls, la, ae, sh⟩ := n
  obtain ⟨rp, rk, lp, lk, ap, ak, hp, hk⟩ := P
  have HQ := Lib.hid (show ∀ b : Bool, (b = true ↔ ep = 0 ∧ tk = 0 ∧ (ask.d = 0 ∧ ask.c = 0 ∧ ask.s = 0 ∧ strB ask.t = ⟨#[]⟩ ∧ strB ask.v = ⟨#[]⟩ ∧ strB ask.f = ⟨#[]⟩ ∧ strB ask.u = ⟨#[]⟩ ∧ ask.m = 0) ∧ (strB sf = ⟨#[]⟩ ∧ strB st = ⟨#[]⟩) ∧ (rep.c = 0 ∧ rep.s = 0 ∧ rep.e = 0 ∧ rep.fd = false ∧ strB rep.v = ⟨#[]⟩ ∧ rep.ls.length = 0 ∧ strB rep.nx = ⟨#[]⟩ ∧ rep.mr = false) ∧ (ls.length = 0 ∧ la.length = 0) ∧ (ae = 0 ∧ sh.length = 0)) → bareB ⟨kd, fr, to_, ep, tk, ask, rep, sf, st, ls, la, ae, sh⟩ = b from fun b hb => by
    obtain ⟨a0, a1, a2, a3, a4, a5, a6, a7⟩ := ask
    obtain ⟨r0, r1, r2, r3, r4, r5, r6, r7⟩ := rep
    simp only [strB_zero, List.length_eq_zero_iff] at hb
    unfold bareB askZ repZ
    simp only [AskL.mk.injEq, RepL.mk.injEq]
    rw [Bool.eq_iff_iff, hb, decide_eq_true_eq])
  generalize bareB ⟨kd, fr, to_, ep, tk, ask, rep, sf, st, ls, la, ae, sh⟩ = R at HQ ⊢
  unfold ntV ntList
  simp only
  generalize ask.d = v5 at HQ ⊢
  generalize ask.c = v6 at HQ ⊢
  generalize ask.s = v7 at HQ ⊢
  generalize strB ask.t = v8 at HQ ⊢
  generalize strB ask.v = v9 at HQ ⊢
  generalize strB ask.f = v10 at HQ ⊢
  generalize strB ask.u = v11 at HQ ⊢
  generalize ask.m = v12 at HQ ⊢
  generalize rep.c = v13 at HQ ⊢
  generalize rep.s = v14 at HQ ⊢
  generalize rep.e = v15 at HQ ⊢
  generalize rep.fd = v16 at HQ ⊢
  generalize strB rep.v = v17 at HQ ⊢
  generalize rep.ls.length = v18 at HQ ⊢
  generalize strB rep.nx = v19 at HQ ⊢
  generalize rep.mr = v20 at HQ ⊢
  generalize strB sf = v21 at HQ ⊢
  generalize strB st = v22 at HQ ⊢
  generalize ls.length = v23 at HQ ⊢
  generalize la.length = v24 at HQ ⊢
  generalize sh.length = v26 at HQ ⊢
  obtain ⟨qa, hqa⟩ : ∃ q : Bool, decide (v5 = 0 ∧ v6 = 0 ∧ v7 = 0 ∧ v8 = ⟨#[]⟩ ∧ v9 = ⟨#[]⟩ ∧ v10 = ⟨#[]⟩ ∧ v11 = ⟨#[]⟩ ∧ v12 = 0) = q := ⟨_, rfl⟩
  obtain ⟨qs, hqs⟩ : ∃ q : Bool, decide (v21 = ⟨#[]⟩ ∧ v22 = ⟨#[]⟩) = q := ⟨_, rfl⟩
  obtain ⟨qr, hqr⟩ : ∃ q : Bool, decide (v13 = 0 ∧ v14 = 0 ∧ v15 = 0 ∧ v16 = false ∧ v17 = ⟨#[]⟩ ∧ v18 = 0 ∧ v19 = ⟨#[]⟩ ∧ v20 = false) = q := ⟨_, rfl⟩
  obtain ⟨ql, hql⟩ : ∃ q : Bool, decide (v23 = 0 ∧ v24 = 0) = q := ⟨_, rfl⟩
  obtain ⟨qt, hqt⟩ : ∃ q : Bool, decide (ae = 0 ∧ v26 = 0) = q := ⟨_, rfl⟩
  have HR := Lib.hid (show ∀ b : Bool, b = (decide (ep = 0) && (decide (tk = 0) && (qa && (qs && (qr && (ql && qt)))))) → R = b from fun b hb => HQ.out b (by
    rw [hb, ← hqa, ← hqs, ← hqr, ← hql, ← hqt]
    simp only [Bool.and_eq_true, decide_eq_true_eq]))
  have hea : ∀ w, (Op.equalIn 10000 23 (.agg #[.int .i64 v5, .int .i64 v6, .int .i64 v7, .string v8, .string v9, .string v10, .string v11, .int .i64 v12]) (.agg #[.int .i64 0, .int .i64 0, .int .i64 0, .string ⟨#[]⟩, .string ⟨#[]⟩, .string ⟨#[]⟩, .string ⟨#[]⟩, .int .i64 0])).run Try.prog w = .ok qa w := fun w => by rw [← hqa]; exact ask0_eq 9998 _ _ _ _ _ _ _ _ w
  have hes : ∀ w, (Op.equalIn 10000 29 (.agg #[.string v21, .string v22]) (.agg #[.string ⟨#[]⟩, .string ⟨#[]⟩])).run Try.prog w = .ok qs w := fun w => by rw [← hqs]; exact span0_eq 9998 _ _ w
  have HEA := Lib.hid hea
  have HES := Lib.hid hes
  have HQR := Lib.hid hqr
  have HQL := Lib.hid hql
  have HQT := Lib.hid hqt
  clear HQ hqa hqs hqr hql hqt hea hes
  obtain ⟨W0, hW0⟩ : ∃ W0, w.alloc (.cells #[.int .i64 kd, .int .i64 fr, .int .i64 to_, .int .i64 ep, .int .i64 tk, .int .i64 v5, .int .i64 v6, .int .i64 v7, .string v8, .string v9, .string v10, .string v11, .int .i64 v12, .int .i64 v13, .int .i64 v14, .int .i64 v15, .bool v16, .string v17, .slice rp v18 rk, .string v19, .bool v20, .string v21, .string v22, .slice lp v23 lk, .slice ap v24 ak, .int .i64 ae, .slice hp v26 hk] 43) = W0 := ⟨_, rfl⟩
  obtain ⟨W1, hW1⟩ : ∃ W1, W0.alloc (.cells #[.int .i64 v13, .int .i64 v14, .int .i64 v15, .bool v16, .string v17, .slice rp v18 rk, .string v19, .bool v20] 27) = W1 := ⟨_, rfl⟩
  have hb0 : Below w.heap.size w W0 := hW0 ▸ (Below.refl _ _).alloc (Nat.le_refl _) _
  have hz0 : W0.heap.size = w.heap.size + 1 := by rw [← hW0]; simp
  have hb1 : Below W0.heap.size W0 W1 := hW1 ▸ (Below.refl _ _).alloc (Nat.le_refl _) _
  have hk0 : W0.heap[w.heap.size]? = some (.cells #[.int .i64 kd, .int .i64 fr, .int .i64 to_, .int .i64 ep, .int .i64 tk, .int .i64 v5, .int .i64 v6, .int .i64 v7, .string v8, .string v9, .string v10, .string v11, .int .i64 v12, .int .i64 v13, .int .i64 v14, .int .i64 v15, .bool v16, .string v17, .slice rp v18 rk, .string v19, .bool v20, .string v21, .string v22, .slice lp v23 lk, .slice ap v24 ak, .int .i64 ae, .slice hp v26 hk] 43 (0, 0)) := hW0 ▸ new_block w _ _
  have hk1 : W1.heap[w.heap.size]? = some (.cells #[.int .i64 kd, .int .i64 fr, .int .i64 to_, .int .i64 ep, .int .i64 tk, .int .i64 v5, .int .i64 v6, .int .i64 v7, .string v8, .string v9, .string v10, .string v11, .int .i64 v12, .int .i64 v13, .int .i64 v14, .int .i64 v15, .bool v16, .string v17, .slice rp v18 rk, .string v19, .bool v20, .string v21, .string v22, .slice lp v23 lk, .slice ap v24 ak, .int .i64 ae, .slice hp v26 hk] 43 (0, 0)) := by rw [hb1.block _ (by omega)]; exact hk0
  have hj1 : W1.heap[w.heap.size + 1]? = some (.cells #[.int .i64 v13, .int .i64 v14, .int .i64 v15, .bool v16, .string v17, .slice rp v18 rk, .string v19, .bool v20] 27 (0, 0)) := by rw [← hz0, ← hW1]; exact new_block W0 _ _
  have HB := Lib.hid (hb0.trans (hb1.mono (by omega)))
  have HW0 := Lib.hid hW0
  have HW1 := Lib.hid hW1
  have HZ0 := Lib.hid hz0
  have k13 := cell_at hk0 13
  have k14 := cell_at hk0 14
  have k15 := cell_at hk0 15
  have k16 := cell_at hk0 16
  have k17 := cell_at hk0 17
  have k18 := cell_at hk0 18
  have k19 := cell_at hk0 19
  have k20 := cell_at hk0 20
  have HK1 := Lib.hid (fun i => cell_at hk1 i)
  have j0 := cell_at hj1 0
  have j1 := cell_at hj1 1
  have j2 := cell_at hj1 2
  have j3 := cell_at hj1 3
  have j4 := cell_at hj1 4
  have j5 := cell_at hj1 5
  have j6 := cell_at hj1 6
  have j7 := cell_at hj1 7
  clear hW0 hW1 hb0 hz0 hb1 hk0 hk1 hj1
  go_enter Try.func37, Try.ntmps37
  go_upto_region 1 with fail
  rw [HW0.out]
  go_upto_region 2 with fail
  rw [HZ0.out, HW1.out]
  clear k13 k14 k15 k16 k17 k18 k19 k20
  go_cut [4] from 9 to 47 (fun v wx => v = .bool qr ∧ wx = W1)
  case first =>
    by_cases hzv13 : v13 = 0
    case neg =>
      have hbv13 : (v13 == 0) = false := by simp [hzv13]
      go_wp2_with fail
      go_meet
      exact ⟨congrArg Value.bool (by rw [← HQR.out]; simp [hzv13]), rfl⟩
    subst hzv13
    by_cases hzv14 : v14 = 0
    case neg =>
      have hbv14 : (v14 == 0) = false := by simp [hzv14]
      go_wp2_with fail
      go_meet
      exact ⟨congrArg Value.bool (by rw [← HQR.out]; simp [hzv14]), rfl⟩
    subst hzv14
    by_cases hzv15 : v15 = 0
    case neg =>
      have hbv15 : (v15 == 0) = false := by simp [hzv15]
      go_wp2_with fail
      go_meet
      exact ⟨congrArg Value.bool (by rw [← HQR.out]; simp [hzv15]), rfl⟩
    subst hzv15
    cases v16
    case true =>
      go_wp2_with fail
      go_meet
      exact ⟨congrArg Value.bool (by rw [← HQR.out]; simp), rfl⟩
    case false =>
      by_cases hzv17 : v17 = ⟨#[]⟩
      case neg =>
        have hbv17 : (v17.toList == []) = false := strE_no hzv17
        have hcv17 : v17.toList.isEmpty = false := strE_no' hzv17
        go_wp2_with fail
        go_meet
        exact ⟨congrArg Value.bool (by rw [← HQR.out]; simp [hzv17]), rfl⟩
      subst hzv17
      by_cases hzv18 : v18 = 0
      case neg =>
        have hbv18 : ((v18 : Int) == 0) = false := by simp; omega
        go_wp2_with fail
        go_meet
        exact ⟨congrArg Value.bool (by rw [← HQR.out]; simp [hzv18]), rfl⟩
      subst hzv18
      by_cases hzv19 : v19 = ⟨#[]⟩
      case neg =>
        have hbv19 : (v19.toList == []) = false := strE_no hzv19
        have hcv19 : v19.toList.isEmpty = false := strE_no' hzv19
        go_wp2_with fail
        go_meet
        exact ⟨congrArg Value.bool (by rw [← HQR.out]; simp [hzv19]), rfl⟩
      subst hzv19
      cases v20
      case true =>
        go_wp2_with fail
        go_meet
        exact ⟨congrArg Value.bool (by rw [← HQR.out]; simp), rfl⟩
      case false =>
        go_wp2_with fail
        go_meet
        exact ⟨congrArg Value.bool (by rw [← HQR.out]; simp), rfl⟩
  case rest =>
    obtain ⟨rfl, rfl⟩ := hcut
    clear j0 j1 j2 j3 j4 j5 j6 j7
    have k25 := HK1.out 25
    have k26 := HK1.out 26
    go_upto_region 3 with fail
    go_cut [5] from 48 to 58 (fun v wx => v = .bool qt ∧ wx = wc)
    case first =>
      by_cases hzae : ae = 0
      case neg =>
        have hbae : (ae == 0) = false := by simp [hzae]
        go_wp2_with fail
        go_meet
        exact ⟨congrArg Value.bool (by rw [← HQT.out]; simp [hzae]), rfl⟩
      subst hzae
      by_cases hzv26 : v26 = 0
      case neg =>
        have hbv26 : ((v26 : Int) == 0) = false := by simp; omega
        go_wp2_with fail
        go_meet
        exact ⟨congrArg Value.bool (by rw [← HQT.out]; simp [hzv26]), rfl⟩
      subst hzv26
      go_wp2_with fail
      go_meet
      exact ⟨congrArg Value.bool (by rw [← HQT.out]; simp), rfl⟩
    case rest =>
      obtain ⟨rfl, rfl⟩ := hcut
      clear k25 k26
      have k23 := HK1.out 23
      have k24 := HK1.out 24
      go_upto_region 4 with fail
      go_cut [6] from 59 to 68 (fun v wx => v = .bool ql ∧ wx = wc)
      case first =>
        by_cases hzv23 : v23 = 0
        case neg =>
          have hbv23 : ((v23 : Int) == 0) = false := by simp; omega
          go_wp2_with fail
          go_meet
          exact ⟨congrArg Value.bool (by rw [← HQL.out]; simp [hzv23]), rfl⟩
        subst hzv23
        by_cases hzv24 : v24 = 0
        case neg =>
          have hbv24 : ((v24 : Int) == 0) = false := by simp; omega
          go_wp2_with fail
          go_meet
          exact ⟨congrArg Value.bool (by rw [← HQL.out]; simp [hzv24]), rfl⟩
        subst hzv24
        go_wp2_with fail
        go_meet
        exact ⟨congrArg Value.bool (by rw [← HQL.out]; simp), rfl⟩
      case rest =>
        obtain ⟨rfl, rfl⟩ := hcut
        clear k23 k24
        have k3 := HK1.out 3
        have k4 := HK1.out 4
        have k5 := HK1.out 5
        have k6 := HK1.out 6
        have k7 := HK1.out 7
        have k8 := HK1.out 8
        have k9 := HK1.out 9
        have k10 := HK1.out 10
        have k11 := HK1.out 11
        have k12 := HK1.out 12
        have k21 := HK1.out 21
        have k22 := HK1.out 22
        have hea := HEA.out
        have hes := HES.out
        clear HEA HES HK1 HQR HQL HQT
        by_cases hzep : ep = 0
        case neg =>
          have hbep : (ep == 0) = false := by simp [hzep]
          obtain rfl : R = false := HR.out false (by simp [hzep])
          go_wp2_with fail
          go_ret
          exact ⟨rfl, HB.out⟩
        subst hzep
        by_cases hztk : tk = 0
        case neg =>
          have hbtk : (tk == 0) = false := by simp [hztk]
          obtain rfl : R = false := HR.out false (by simp [hztk])
          go_wp2_with fail
          go_ret
          exact ⟨rfl, HB.out⟩
        subst hztk
        cases qa
        case false =>
          obtain rfl : R = false := HR.out false (by simp)
          go_wp2_with fail
          go_ret
          exact ⟨rfl, HB.out⟩
        case true =>
          cases qs
          case false =>
            obtain rfl : R = false := HR.out false (by simp)
            go_wp2_with fail
            go_ret
            exact ⟨rfl, HB.out⟩
          case true =>
            cases qr
            case false =>
              obtain rfl : R = false := HR.out false (by simp)
              go_wp2_with fail
              go_ret
              exact ⟨rfl, HB.out⟩
            case true =>
              cases ql
              case false =>
                obtain rfl : R = false := HR.out false (by simp)
                go_wp2_with fail
                go_ret
                exact ⟨rfl, HB.out⟩
              case true =>
                cases qt
                case false =>
                  obtain rfl : R = false := HR.out false (by simp)
                  go_wp2_with fail
                  go_ret
                  exact ⟨rfl, HB.out⟩
                case true =>
                  obtain rfl : R = true := HR.out true (by simp)
                  go_wp2_with fail
                  go_ret
                  exact ⟨rfl, HB.out⟩
end Go.Proofs.Ytfadpiipigkocaa
