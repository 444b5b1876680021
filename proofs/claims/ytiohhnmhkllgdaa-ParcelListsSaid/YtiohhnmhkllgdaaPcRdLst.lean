/-
  Layer parcel: ReadList at texts, with the law's 'back'.
-/
import Derived.Test.YtiohhnmhkllgdaaPcList
namespace Go.Proofs.Ytiohhnmhkllgdaa
open Go.RowKit Go.Gz

theorem back_yes (l : List UInt8) (b c : Nat) (w : World) (hl : l.length ≤ 3) (hr : Row w .u8 (some ⟨b, 0, none⟩) (nums l)) : Calls Try.prog 10 #[.slice (some ⟨b, 0, none⟩) l.length c] w fun e w' => e = .returned (.tuple #[.string (strB l), .int .i64 0]) ∧ w = w' := by
  have hcv : (convert 25 9 (.slice (some ⟨b, 0, none⟩) l.length c)).run Try.prog w = .ok (.string (strB l)) w := run_string w l (some ⟨b, 0, none⟩) c hr
  have h3 : decide ((l.length : Int) > 3) = false := by simp; omega
  obtain ⟨s, hs⟩ : ∃ s, strB l = s := ⟨_, rfl⟩
  rw [hs] at hcv ⊢
  obtain ⟨n, hn⟩ : ∃ n, l.length = n := ⟨_, rfl⟩
  rw [hn] at hcv h3 ⊢
  clear hs hn hl hr
  go_enter Try.func10, Try.ntmps10
  go_wp2_with fail
  go_ret2
  exact ⟨rfl, rfl⟩
theorem back_no (l : List UInt8) (b c : Nat) (w : World) (hl : 3 < l.length) : Calls Try.prog 10 #[.slice (some ⟨b, 0, none⟩) l.length c] w fun e w' => e = .returned (.tuple #[.string ⟨#[]⟩, .int .i64 2]) ∧ w = w' := by
  have h3 : decide ((l.length : Int) > 3) = true := by simp; omega
  obtain ⟨n, hn⟩ : ∃ n, l.length = n := ⟨_, rfl⟩
  rw [hn] at h3 ⊢
  clear hn hl
  go_enter Try.func10, Try.ntmps10
  go_wp2_with fail
  go_ret2
  exact ⟨rfl, rfl⟩

theorem catch_read (p q : Addr) (w : World) :
    CallsD Try.prog 23 #[.pointer (some p), .pointer (some q)] .returning w fun e u' w' => e = .returned (.tuple #[]) ∧ u' = .returning ∧ w' = w := by
  refine callsD_of_wpS Try.func23 rfl fun c₀ cs hu => ?_
  apply wpS_seq
  apply wpS_region
  simp [wpOpsS, go_sem, recoverD, hu, Try.ntmps23, Exit.thenS]
  refine wpS_cond (t := false) (by simp [Act.eval, Array.replicate]) ?_
  simp only [Bool.false_eq_true, if_false]
  refine wpS_of_wp (wp_skip ?_)
  cases c₀
  simp_all [bodyPostS, results, Try.results23]

/-- what ReadList answers. -/
def RetRL (w : World) (b : List UInt8) (e : Ending) (w' : World) : Prop :=
  ∃ q d, ∃ ls : List (List UInt8), e = .returned (.tuple #[.slice q ls.length d, .int .i64 (rdListE b)]) ∧ (rdListE b = 0 → ls = rdListV b) ∧ (rdListE b ≠ 0 → ls = []) ∧ Strs w' q (ls.map strB) ∧ Below w.heap.size w w'

set_option maxHeartbeats 1000000 in
theorem readList_nil (p : Option Addr) (n cap : Nat) (w : World) : Calls Try.prog 9 #[.slice p n cap, .nilFunc] w fun e w' => e = .returned (.tuple #[.slice none 0 0, .int .i64 1]) ∧ Below w.heap.size w w' := by
  have hfn : ∀ w : World, (binOp .eql 31 .nilFunc .nilFunc).run Try.prog w = .ok (.bool true) w := fun _ => by kernel_rfl
  go_enter_defers Try.func9, Try.ntmps9
  go_wp2_with fail
  have h0 : ((w.alloc (.cells #[.slice none 0 0] 22)).alloc (.cells #[.int .i64 1] 28)).cell? ⟨w.heap.size, 0, none⟩ = some (.slice none 0 0) := by simp [go_sem]
  have h1 : ((w.alloc (.cells #[.slice none 0 0] 22)).alloc (.cells #[.int .i64 1] 28)).cell? ⟨w.heap.size + 1, 0, none⟩ = some (.int .i64 1) := by simp [go_sem]
  exact ⟨.tuple #[.slice none 0 0, .int .i64 1], by simp [results, Try.results9, go_sem, h0, h1], rfl, ((Below.refl _ _).alloc (Nat.le_refl _) _).alloc (by simp) _⟩

theorem leave_rl {tmps : Array Value} {R : Ending → World → Prop} {wr : World} {A E : Nat} {v u : Value} (hA : wr.cell? ⟨A, 0, none⟩ = some v) (hE : wr.cell? ⟨E, 0, none⟩ = some u)
    (h4 : tmps.getD 4 undef = .pointer (some ⟨A, 0, none⟩)) (h5 : tmps.getD 5 undef = .pointer (some ⟨E, 0, none⟩)) (hR : R (.returned (.tuple #[v, u])) wr) :
    Leaves Try.prog Try.f9 tmps R [{ target := .fn (.func 23) #[.pointer (some ⟨A, 0, none⟩), .pointer (some ⟨E, 0, none⟩)], args := #[] }] .returning wr := by
  refine leaves_cons (f := 23) (args := #[.pointer (some ⟨A, 0, none⟩), .pointer (some ⟨E, 0, none⟩)]) (by simp) (by simp [go_sem]) ?_
  refine (catch_read ⟨A, 0, none⟩ ⟨E, 0, none⟩ _).mono ?_
  rintro e u' w'' ⟨rfl, rfl, rfl⟩
  have h4' : tmps[4]?.getD undef = .pointer (some ⟨A, 0, none⟩) := by simpa using h4
  have h5' : tmps[5]?.getD undef = .pointer (some ⟨E, 0, none⟩) := by simpa using h5
  simp [Leaves, settle, results, Try.results9, go_sem, h4', h5', hA, hE]
  exact hR

structure RlI (w : World) (acc : List (List UInt8)) (st : St) (wr : World) : Prop where
  bel : Below w.heap.size w wr
  sz : w.heap.size + 3 ≤ wr.heap.size
  cE : wr.heap[w.heap.size + 1]? = some (.cells #[.int .i64 0] 28 (0, 0))
  cA : ∃ v, wr.heap[w.heap.size]? = some (.cells #[v] 22 (0, 0)) ∧ OwnS wr (w.heap.size + 3) v (acc.map strB)
  rd : RdAt wr (w.heap.size + 2) st
theorem RlI.chg {w : World} {acc : List (List UInt8)} {st st' : St} {wr wr' : World} (h : RlI w acc st wr) (hc : Chg (w.heap.size + 2) wr wr') (hr : RdAt wr' (w.heap.size + 2) st') : RlI w acc st' wr' := by
  obtain ⟨v, h1, h2⟩ := h.cA
  have hs := h.sz
  exact ⟨h.bel.trans (hc.below (by omega) h.bel.size), by have := hc.size; omega, by rw [hc.block _ (by omega) (by omega)]; exact h.cE,
    ⟨v, by rw [hc.block _ (by omega) (by omega)]; exact h1, h2.chg hc (by omega)⟩, hr⟩
theorem RlI.below {w : World} {acc : List (List UInt8)} {st : St} {wr wr' : World} (h : RlI w acc st wr) (hb : Below wr.heap.size wr wr') : RlI w acc st wr' := by
  obtain ⟨v, h1, h2⟩ := h.cA
  have hs := h.sz
  exact ⟨h.bel.trans (hb.mono h.bel.size), by have := hb.size; omega, by rw [hb.block _ (by omega)]; exact h.cE,
    ⟨v, by rw [hb.block _ (by omega)]; exact h1, h2.below hb⟩, h.rd.below hb⟩

theorem OwnS.set {w : World} {B g o : Nat} {u : Value} {v : Value} {ss : List ByteArray} (h : OwnS w B v ss) (hg : g < B) : OwnS (w.setCell ⟨g, o, none⟩ u) B v ss := by
  obtain ⟨h1, h2⟩ := h
  refine ⟨h1, ?_⟩
  rcases h2 with h2 | ⟨k, cap, cur, e, hk, hh, r⟩
  · exact Or.inl h2
  · exact Or.inr ⟨k, cap, cur, e, hk, by rw [Below.heap_setCell _ _ _ _ (show k ≠ g by omega)]; exact hh, r⟩
theorem ownS_in {w : World} {B k d : Nat} {q : Option Addr} {ss : List ByteArray} (h : OwnS w B (.slice q k d) ss) : Strs w q ss := by
  obtain ⟨_, _, he, _, _, h2⟩ := h.row
  injection he with h3 _ _
  subst h3
  exact h2
theorem RdAt.set {w : World} {g k o : Nat} {u : Value} {st : St} (h : RdAt w g st) (hk : k ≠ g) : RdAt (w.setCell ⟨k, o, none⟩ u) g st := ⟨h.bd, by rw [Below.heap_setCell _ _ _ _ (Ne.symm hk)]; exact h.at_⟩
theorem RlI.app {w : World} {acc : List (List UInt8)} {x : List UInt8} {st : St} {wr w5 : World} {v v5 : Value} (h : RlI w acc st wr) (hA : wr.heap[w.heap.size]? = some (.cells #[v] 22 (0, 0))) (hlt : ∀ g, v.ownBlock = some g → w.heap.size + 3 ≤ g)
    (ho : OwnS w5 (w.heap.size + 3) v5 ((acc ++ [x]).map strB)) (hg : wr.grownBy w5 v.ownBlock) : (w5.heap[w.heap.size]? = some (.cells #[v] 22 (0, 0))) ∧ RlI w (acc ++ [x]) st (w5.setCell ⟨w.heap.size, 0, none⟩ v5) := by
  have hs := h.sz
  have hne : ∀ k, k < w.heap.size + 3 → some k ≠ v.ownBlock := fun k hk e => by have := hlt k e.symm; omega
  have hA5 : w5.heap[w.heap.size]? = some (.cells #[v] 22 (0, 0)) := by rw [hg.block _ (by omega) (hne _ (by omega))]; exact hA
  refine ⟨hA5, ?_⟩
  have hz : (w5.setCell ⟨w.heap.size, 0, none⟩ v5).heap.size = w5.heap.size := by simp [World.setCell]
  exact ⟨(h.bel.grown hg h.bel.size (fun g e => by have := hlt g e; omega)).setCell (p := ⟨w.heap.size, 0, none⟩) (Nat.le_refl _) _, by rw [hz]; have := hg.size; omega,
    by rw [Below.heap_setCell _ _ _ _ (show w.heap.size + 1 ≠ w.heap.size by omega), hg.block _ (by omega) (hne _ (by omega))]; exact h.cE,
    ⟨v5, set_at hA5 0 v5, ho.set (by omega)⟩, (h.rd.grown hg (hne _ (by omega))).set (by omega)⟩

set_option maxHeartbeats 4000000 in
theorem readList_any (b : List UInt8) (p : Option Addr) (cap : Nat) (w : World) (hp : Row w .u8 p (nums b)) (hn : rdV numC 0 (.ok b) ≤ 1000) :
    Calls Try.prog 9 #[.slice p b.length cap, .func (.func 10) #[] #[]] w (RetRL w b) := by
  have hfn : ∀ w : World, (binOp .eql 31 (.func (.func 10) #[] #[]) .nilFunc).run Try.prog w = .ok (.bool false) w := fun _ => by kernel_rfl
  have hmf : ∀ (fn : Fn) (first cap : Array Value) (w : World), (Instr.makeFunc fn first cap).run Try.prog w = .ok (.func fn first cap) w := fun _ _ _ _ => rfl
  obtain ⟨w0, hw0⟩ : ∃ w0, (w.alloc (.cells #[.slice none 0 0] 22)).alloc (.cells #[.int .i64 0] 28) = w0 := ⟨_, rfl⟩
  have z0 : w0.heap.size = w.heap.size + 2 := by rw [← hw0]; simp
  have hb0 : Below w.heap.size w w0 := hw0 ▸ ((Below.refl _ _).alloc (Nat.le_refl _) _).alloc (by simp) _
  have hA0 : w0.heap[w.heap.size]? = some (.cells #[.slice none 0 0] 22 (0, 0)) := by
    have hb1 : Below (w.alloc (.cells #[.slice none 0 0] 22)).heap.size (w.alloc (.cells #[.slice none 0 0] 22)) w0 := hw0 ▸ (Below.refl _ _).alloc (Nat.le_refl _) _
    rw [hb1.block w.heap.size (by simp)]
    exact new_block _ _ _
  have hE0 : w0.heap[w.heap.size + 1]? = some (.cells #[.int .i64 0] 28 (0, 0)) := by
    have := new_block (w.alloc (.cells #[.slice none 0 0] 22)) #[.int .i64 0] 28
    rw [hw0] at this
    rwa [show (w.alloc (.cells #[.slice none 0 0] 22)).heap.size = w.heap.size + 1 by simp] at this
  have CR := Lib.hid (rnew_any w0 b p cap (hp.below hb0))
  rw [z0] at CR
  have H0 := Lib.hid (And.intro hb0 (And.intro hA0 (And.intro hE0 z0)))
  obtain ⟨n, hnn⟩ : ∃ n, rdV numC 0 (.ok b) = n := ⟨_, rfl⟩
  obtain ⟨S0, hS0⟩ : ∃ S, rdR numC (.ok b) = S := ⟨_, rfl⟩
  have HX := Lib.hid (show rdListE b = scanL n S0 ∧ rdListV b = valsR textC [] n S0 from ⟨by unfold rdListE; rw [hnn, hS0], by unfold rdListV; rw [hnn, hS0]⟩)
  have CN := Lib.hid (fun w1 h => number_any w1 (w.heap.size + 2) (.ok b) h)
  rw [hnn, hS0] at CN
  rw [hnn] at hn
  obtain ⟨bl, hbl⟩ : ∃ m, b.length = m := ⟨_, rfl⟩
  rw [hbl] at CR ⊢
  clear hp hb0 hA0 hE0 z0 hnn hS0 hbl
  go_enter_defers Try.func9, Try.ntmps9
  go_wp2_with fail
  clear hw0
  refine CR.out.mono ?_
  rintro e w1 ⟨rfl, hr1, hb1⟩
  have HI1 := Lib.hid (show RlI w [] (.ok b) w1 from by
    obtain ⟨h1, h2, h3, h4⟩ := H0.out
    have hb1' : Below w0.heap.size w0 w1 := by rw [h4]; exact hb1
    exact ⟨h1.trans (hb1'.mono h1.size), by have := hr1.lt; omega, by rw [hb1'.block _ (by omega)]; exact h3, ⟨_, by rw [hb1'.block _ (by omega)]; exact h2, OwnS.nil _ _⟩, hr1⟩)
  have C1 := Lib.hid (CN.out w1 hr1)
  clear hr1 hb1
  go_wp2_with fail
  refine C1.out.mono ?_
  rintro e w2 ⟨rfl, hr2, hc2⟩
  have HI2 := Lib.hid (HI1.out.chg hc2 hr2)
  clear hr2 hc2 CR CN C1
  go_wp2_with fail
  go_loopw [7, 8, 9, 18] (fun _ _ _ i wr => ∃ (k : Nat) (acc : List (List UInt8)) (st : St), k ≤ n ∧ i = .int .i64 k ∧ Hid (RlI w acc st wr ∧ acc.length = k ∧ scanL n S0 = scanL (n - k) st ∧ valsR textC [] n S0 = acc ++ valsR textC [] (n - k) st)) (fun _ _ _ i _ => n - (intOf i).toNat)
  case atStart => exact ⟨0, [], S0, Nat.zero_le _, rfl, Lib.hid ⟨HI2.out, rfl, rfl, rfl⟩⟩
  case round =>
    obtain ⟨k, acc, st, hk, rfl, HR⟩ := hrel
    by_cases hlt : k < n
    · have hltz : (k : Int) < (n : Int) := by omega
      have CT := Lib.hid (text_any wr (w.heap.size + 2) st HR.out.1.rd)
      obtain ⟨x, hx⟩ : ∃ x, rdV textC [] st = x := ⟨_, rfl⟩
      obtain ⟨st', hst'⟩ : ∃ s, rdR textC st = s := ⟨_, rfl⟩
      rw [hx, hst'] at CT
      have HXS := Lib.hid (And.intro hx hst')
      clear hx hst'
      go_wp2_with fail
      refine CT.out.mono ?_
      rintro e w3 ⟨rfl, hr3, hc3⟩
      have HI3 := Lib.hid (HR.out.1.chg hc3 hr3)
      have d1 := cell_at hr3.at_ 1
      clear hr3 hc3
      obtain ⟨v3, hA3, hO3⟩ := HI3.out.cA
      have HA3 := Lib.hid (And.intro hA3 hO3)
      have a0 := cell_at hA3 0
      have a1 := frozen_at hA3 0
      have e0 := cell_at HI3.out.cE 0
      have e1 := frozen_at HI3.out.cE 0
      clear hA3 hO3
      have hnk : n - k = (n - (k + 1)) + 1 := by omega
      cases st' with
      | error er =>
        have her := HI3.out.rd.bd er rfl
        have herz : ((er : Int) != 0) = true := by simp; omega
        simp only [errS] at d1
        have HEE := Lib.hid (show rdListE b = er from by
          rw [HX.out.1, HR.out.2.2.1, hnk]
          simp only [scanL, HXS.out.2])
        have HNE := Lib.hid her
        clear her
        go_wp2_with fail
        go_region
        all_goals (go_wp2_with fail)
        all_goals
          refine leave_rl (v := .slice none 0 0) (u := .int .i64 er) (by simp [go_sem, a0, e0]) (by simp [go_sem, a0, e0]) rfl rfl ⟨none, 0, [], by rw [HEE.out]; first | done | rfl, fun h => absurd (HEE.out.symm.trans h) HNE.out, fun _ => rfl, Or.inl rfl, ?_⟩
          exact ((HI3.out.bel.drew).setCell (p := ⟨w.heap.size, 0, none⟩) (Nat.le_refl _) _).setCell (p := ⟨w.heap.size + 1, 0, none⟩) (Nat.le_succ _) _
      | ok r =>
        simp only [errS] at d1
        obtain ⟨cap4, w4, h4, _, hr4, hb4⟩ := conv_bytes w3 x
        rw [strB_size] at h4
        have HI4 := Lib.hid (HI3.out.below hb4)
        have HA4 := Lib.hid (show w4.heap[w.heap.size]? = some (.cells #[v3] 22 (0, 0)) ∧ OwnS w4 (w.heap.size + 3) v3 (acc.map strB) from ⟨by rw [hb4.block _ (by have := HI3.out.sz; omega)]; exact HA3.out.1, HA3.out.2.below hb4⟩)
        by_cases h3 : 3 < x.length
        · have CB := Lib.hid (back_no x w3.heap.size cap4 w4 h3)
          have HEE := Lib.hid (show rdListE b = 2 from by
            rw [HX.out.1, HR.out.2.2.1, hnk]
            simp only [scanL, HXS.out.2, HXS.out.1]
            rw [if_pos h3])
          have b0 := cell_at HA4.out.1 0
          have b1 := frozen_at HA4.out.1 0
          have f0 := cell_at HI4.out.cE 0
          have f1 := frozen_at HI4.out.cE 0
          obtain ⟨s, hs⟩ : ∃ s, strB x = s := ⟨_, rfl⟩
          rw [hs] at h4
          rw [hs]
          obtain ⟨m, hm⟩ : ∃ m, x.length = m := ⟨_, rfl⟩
          rw [hm] at h4 CB
          clear hr4 hb4 hs hm h3
          go_wp2_with fail
          refine CB.out.mono ?_
          rintro e w5 ⟨rfl, rfl⟩
          go_wp2_with fail
          refine leave_rl (v := .slice none 0 0) (u := .int .i64 2) (by simp [go_sem, b0, f0]) (by simp [go_sem, b0, f0]) rfl rfl ⟨none, 0, [], by rw [HEE.out]; first | done | rfl, fun h => absurd (HEE.out.symm.trans h) (by decide), fun _ => rfl, Or.inl rfl, ?_⟩
          exact (HI4.out.bel.setCell (p := ⟨w.heap.size, 0, none⟩) (Nat.le_refl _) _).setCell (p := ⟨w.heap.size + 1, 0, none⟩) (Nat.le_succ _) _
        · have CB := Lib.hid (back_yes x w3.heap.size cap4 w4 (by omega) hr4)
          have HEE := Lib.hid (show scanL n S0 = scanL (n - (k + 1)) (.ok r) from by
            rw [HR.out.2.2.1, hnk]
            simp only [scanL, HXS.out.2, HXS.out.1]
            rw [if_neg h3])
          have HVV := Lib.hid (show valsR textC [] n S0 = (acc ++ [x]) ++ valsR textC [] (n - (k + 1)) (.ok r) from by
            rw [HR.out.2.2.2, hnk]
            simp only [valsR, HXS.out.2, HXS.out.1]
            simp)
          have b0 := cell_at HA4.out.1 0
          obtain ⟨s, hs⟩ : ∃ s, strB x = s := ⟨_, rfl⟩
          have HSX := Lib.hid hs
          rw [hs] at h4 CB
          rw [hs]
          obtain ⟨m, hm⟩ : ∃ m, x.length = m := ⟨_, rfl⟩
          rw [hm] at h4 CB
          clear hr4 hb4 hs hm h3
          go_wp2_with fail
          refine CB.out.mono ?_
          rintro e w5 ⟨rfl, rfl⟩
          go_wp2_with (at_builtin; refine wpList_app_str rfl _ _ rfl (w.heap.size + 3) v3 (acc.map strB) rfl (HA4.out.2.alloc _) ⟨w4.heap.size, 0, none⟩ 1 [s] rfl (strs_one (by simp [go_sem])) (by rw [List.length_map, HR.out.2.1]; simp; omega) (by have := HI4.out.sz; simp; omega) ?_)
          intro v5 w6 ho6 hg6
          obtain ⟨q5, d5, rfl, _, _, _⟩ := ho6.row
          obtain ⟨m5, hm5⟩ : ∃ m, (acc.map strB ++ [s]).length = m := ⟨_, rfl⟩
          rw [hm5] at ho6 ⊢
          clear hm5
          have hal : Below w4.heap.size w4 (w4.alloc (.cells #[.string s] 9)) := (Below.refl _ _).alloc (Nat.le_refl _) _
          obtain ⟨hA6, hI6⟩ := (HI4.out.below hal).app (x := x) (v5 := .slice q5 m5 d5) (by rw [hal.block _ (by have := HI4.out.sz; omega)]; exact HA4.out.1) HA4.out.2.lt (by rw [List.map_append, List.map_cons, List.map_nil, HSX.out]; exact ho6) hg6
          have HI6 := Lib.hid hI6
          have g0 := cell_at hA6 0
          have g1 := frozen_at hA6 0
          clear hal hI6 ho6 hg6 hA6 b0 a0 a1 e0 e1 d1
          go_wp2_with fail
          go_roundw
          case rel => exact ⟨k + 1, acc ++ [x], .ok r, by omega, by go_num, Lib.hid ⟨HI6.out, by rw [List.length_append, HR.out.2.1]; rfl, HEE.out, HVV.out⟩⟩
          case measure => simp [intOf]; omega
    · obtain rfl : k = n := by omega
      have hltz : ¬ (k : Int) < (k : Int) := by omega
      have CE := Lib.hid (end_any wr (w.heap.size + 2) st HR.out.1.rd)
      obtain ⟨E0, hE0⟩ : ∃ E, endE st = E := ⟨_, rfl⟩
      rw [hE0] at CE
      have HEE := Lib.hid (show rdListE b = E0 from by
        rw [HX.out.1, HR.out.2.2.1, Nat.sub_self]
        exact hE0)
      have HVV := Lib.hid (show rdListV b = acc from by
        rw [HX.out.2, HR.out.2.2.2, Nat.sub_self]
        show acc ++ [] = acc
        rw [List.append_nil])
      clear hE0
      obtain ⟨v3, hA3, hO3⟩ := HR.out.1.cA
      have a0 := cell_at hA3 0
      have a1 := frozen_at hA3 0
      have e0 := cell_at HR.out.1.cE 0
      have e1 := frozen_at HR.out.1.cE 0
      obtain ⟨q3, d3, rfl, _, _, _⟩ := hO3.row
      rw [List.length_map] at a0 hA3 hO3
      have HO3 := Lib.hid hO3
      clear hA3 hO3
      go_wp2_with fail
      refine CE.out.mono ?_
      rintro e w3 ⟨rfl, rfl⟩
      by_cases hz : E0 = 0
      · subst hz
        go_wp2_with fail
        refine leave_rl (v := .slice q3 acc.length d3) (u := .int .i64 0) (by simp [go_sem, a0, e0]) (by simp [go_sem, a0, e0]) rfl rfl ⟨q3, d3, acc, by rw [HEE.out]; first | done | rfl, fun _ => HVV.out.symm, fun h => absurd HEE.out h, ?_, ?_⟩
        · exact ownS_in ((HO3.out.set (by omega)).set (by omega))
        · exact (HR.out.1.bel.setCell (p := ⟨w.heap.size, 0, none⟩) (Nat.le_refl _) _).setCell (p := ⟨w.heap.size + 1, 0, none⟩) (Nat.le_succ _) _
      · have hzz : ((E0 : Int) != 0) = true := by simp; omega
        have HNE := Lib.hid hz
        clear hz
        go_wp2_with fail
        refine leave_rl (v := .slice none 0 0) (u := .int .i64 E0) (by simp [go_sem, a0, e0]) (by simp [go_sem, a0, e0]) rfl rfl ⟨none, 0, [], by rw [HEE.out]; first | done | rfl, fun h => absurd (HEE.out.symm.trans h) HNE.out, fun _ => rfl, Or.inl rfl, ?_⟩
        exact (HR.out.1.bel.setCell (p := ⟨w.heap.size, 0, none⟩) (Nat.le_refl _) _).setCell (p := ⟨w.heap.size + 1, 0, none⟩) (Nat.le_succ _) _
end Go.Proofs.Ytiohhnmhkllgdaa
