/-
  Layer parcel: ReadList at texts, with the law's 'back'.
-/
import Derived.Test.YtkidahlhnhglfaaPcList
import Derived.Test.YtkidahlhnhglfaaPcRiStr
namespace Go.Proofs.Ytkidahlhnhglfaa
open Go.RowKit Go.Gz

theorem catch_read (p q : Addr) (w : World) :
    CallsD Try.prog 34 #[.pointer (some p), .pointer (some q)] .returning w fun e u' w' => e = .returned (.tuple #[]) ∧ u' = .returning ∧ w' = w := by
  refine callsD_of_wpS Try.func34 rfl fun c₀ cs hu => ?_
  apply wpS_seq
  apply wpS_region
  simp [wpOpsS, go_sem, recoverD, hu, Try.ntmps34, Exit.thenS]
  refine wpS_cond (t := false) (by simp [Act.eval, Array.replicate]) ?_
  simp only [Bool.false_eq_true, if_false]
  refine wpS_of_wp (wp_skip ?_)
  cases c₀
  simp_all [bodyPostS, results, Try.results34]

/-- what ReadList answers. -/
def RetRL (w : World) (b : List UInt8) (e : Ending) (w' : World) : Prop :=
  ∃ q d, ∃ ls : List (List UInt8), e = .returned (.tuple #[.slice q ls.length d, .int .i64 (rdListE b)]) ∧ (rdListE b = 0 → ls = rdListV b) ∧ (rdListE b ≠ 0 → ls = []) ∧ Strs w' q (ls.map strB) ∧ Below w.heap.size w w'

set_option maxHeartbeats 1000000 in
theorem readList_nil (p : Option Addr) (n cap : Nat) (w : World) : Calls Try.prog 10 #[.slice p n cap, .nilFunc] w fun e w' => e = .returned (.tuple #[.slice none 0 0, .int .i64 1]) ∧ Below w.heap.size w w' := by
  have hfn : ∀ w : World, (binOp .eql 31 .nilFunc .nilFunc).run Try.prog w = .ok (.bool true) w := fun _ => by kernel_rfl
  go_enter_defers Try.func10, Try.ntmps10
  go_wp2_with fail
  have h0 : (((w.alloc (.cells #[.nilFunc] 31)).alloc (.cells #[.slice none 0 0] 22)).alloc (.cells #[.int .i64 1] 28)).cell? ⟨w.heap.size + 1, 0, none⟩ = some (.slice none 0 0) := by simp [go_sem]
  have h1 : (((w.alloc (.cells #[.nilFunc] 31)).alloc (.cells #[.slice none 0 0] 22)).alloc (.cells #[.int .i64 1] 28)).cell? ⟨w.heap.size + 1 + 1, 0, none⟩ = some (.int .i64 1) := by simp [go_sem]
  exact ⟨.tuple #[.slice none 0 0, .int .i64 1], by simp [results, Try.results10, go_sem, h0, h1], rfl, (((Below.refl _ _).alloc (Nat.le_refl _) _).alloc (by simp) _).alloc (by simp; omega) _⟩

theorem leave_rl {tmps : Array Value} {R : Ending → World → Prop} {wr : World} {A E : Nat} {v u : Value} (hA : wr.cell? ⟨A, 0, none⟩ = some v) (hE : wr.cell? ⟨E, 0, none⟩ = some u)
    (h4 : tmps.getD 4 undef = .pointer (some ⟨A, 0, none⟩)) (h5 : tmps.getD 5 undef = .pointer (some ⟨E, 0, none⟩)) (hR : R (.returned (.tuple #[v, u])) wr) :
    Leaves Try.prog Try.f10 tmps R [{ target := .fn (.func 34) #[.pointer (some ⟨A, 0, none⟩), .pointer (some ⟨E, 0, none⟩)], args := #[] }] .returning wr := by
  refine leaves_cons (f := 34) (args := #[.pointer (some ⟨A, 0, none⟩), .pointer (some ⟨E, 0, none⟩)]) (by simp) (by simp [go_sem]) ?_
  refine (catch_read ⟨A, 0, none⟩ ⟨E, 0, none⟩ _).mono ?_
  rintro e u' w'' ⟨rfl, rfl, rfl⟩
  have h4' : tmps[4]?.getD undef = .pointer (some ⟨A, 0, none⟩) := by simpa using h4
  have h5' : tmps[5]?.getD undef = .pointer (some ⟨E, 0, none⟩) := by simpa using h5
  simp [Leaves, settle, results, Try.results10, go_sem, h4', h5', hA, hE]
  exact hR

theorem OwnS.set {w : World} {B g o : Nat} {u : Value} {v : Value} {ss : List ByteArray} (h : OwnS w B v ss) (hg : g < B) : OwnS (w.setCell ⟨g, o, none⟩ u) B v ss := by
  obtain ⟨h1, h2⟩ := h
  refine ⟨h1, ?_⟩
  rcases h2 with h2 | ⟨k, cap, cur, e, hk, hh, r⟩
  · exact Or.inl h2
  · exact Or.inr ⟨k, cap, cur, e, hk, by rw [Below.heap_setCell _ _ _ _ (show k ≠ g by omega)]; exact hh, r⟩
theorem ownS_in {w : World} {B k d : Nat} {q : Option Addr} {ss : List ByteArray} (h : OwnS w B (.slice q k d) ss) : Strs w q ss := by
  obtain ⟨_, _, he, _, _, h2⟩ := h.row
  injection he with h3 _ _
  subst h3
  exact h2
theorem RdAt.set {w : World} {g k o : Nat} {u : Value} {st : St} (h : RdAt w g st) (hk : k ≠ g) : RdAt (w.setCell ⟨k, o, none⟩ u) g st := ⟨h.bd, by rw [Below.heap_setCell _ _ _ _ (Ne.symm hk)]; exact h.at_⟩

set_option maxHeartbeats 4000000 in
theorem readList_any (b : List UInt8) (p : Option Addr) (cap : Nat) (w : World) (hp : Row w .u8 p (nums b)) (hn : b.length ≤ 99999999) :
    Calls Try.prog 10 #[.slice p b.length cap, .func (.func 11) #[] #[]] w (RetRL w b) := by
  have hfn : ∀ w : World, (binOp .eql 31 (.func (.func 11) #[] #[]) .nilFunc).run Try.prog w = .ok (.bool false) w := fun _ => by kernel_rfl
  have hmf : ∀ (fn : Fn) (first cap : Array Value) (w : World), (Instr.makeFunc fn first cap).run Try.prog w = .ok (.func fn first cap) w := fun _ _ _ _ => rfl
  obtain ⟨v0, hv0⟩ : ∃ v0, v0 = w.alloc (.cells #[.func (.func 11) #[] #[]] 31) := ⟨_, rfl⟩
  obtain ⟨v1, hv1⟩ : ∃ v1, v1 = v0.alloc (.cells #[.slice none 0 0] 22) := ⟨_, rfl⟩
  obtain ⟨w0, hw0⟩ : ∃ w0, w0 = v1.alloc (.cells #[.int .i64 0] 28) := ⟨_, rfl⟩
  have y0 : v0.heap.size = w.heap.size + 1 := by rw [hv0]; simp
  have y1 : v1.heap.size = w.heap.size + 2 := by rw [hv1]; simp [y0]
  have z0 : w0.heap.size = w.heap.size + 3 := by rw [hw0]; simp [y1]
  have b1 : Below v0.heap.size v0 v1 := hv1 ▸ (Below.refl _ _).alloc (Nat.le_refl _) _
  have b2 : Below v1.heap.size v1 w0 := hw0 ▸ (Below.refl _ _).alloc (Nat.le_refl _) _
  have hb0 : Below w.heap.size w w0 := ((hv0 ▸ (Below.refl _ _).alloc (Nat.le_refl _) _ : Below w.heap.size w v0).trans (b1.mono (by omega))).trans (b2.mono (by omega))
  have hX0 : w0.heap[w.heap.size]? = some (.cells #[.func (.func 11) #[] #[]] 31 (0, 0)) := by
    rw [b2.block _ (by omega), b1.block _ (by omega), hv0]; exact new_block _ _ _
  have hA0 : w0.heap[w.heap.size + 1]? = some (.cells #[.slice none 0 0] 22 (0, 0)) := by
    rw [b2.block _ (by omega), hv1, ← y0]; exact new_block _ _ _
  have hE0 : w0.heap[w.heap.size + 2]? = some (.cells #[.int .i64 0] 28 (0, 0)) := by
    rw [hw0, ← y1]; exact new_block _ _ _
  have HW0 := Lib.hid (show ((w.alloc (.cells #[.func (.func 11) #[] #[]] 31)).alloc (.cells #[.slice none 0 0] 22)).alloc (.cells #[.int .i64 0] 28) = w0 by rw [hw0, hv1, hv0])
  have CR := Lib.hid (rnew_any w0 b p cap (hp.below hb0))
  rw [z0] at CR
  have H0 := Lib.hid (And.intro hb0 (And.intro hX0 (And.intro hA0 (And.intro hE0 z0))))
  have HN := Lib.hid hn
  have HX := Lib.hid (t3_list b)
  obtain ⟨S, hS⟩ : ∃ S, rdR (Codec.list t3C) (.ok b) = S := ⟨_, rfl⟩
  have CN := Lib.hid (fun w1 h1 (h2 : ∀ w2, Chg (w.heap.size + 3) w1 w2 → w2.cell? ⟨w.heap.size, 0, none⟩ = some (.func (.func 11) #[] #[])) => readItemsStr (g := 37) (lb := #[.pointer (some ⟨w.heap.size, 0, none⟩)]) (fun _ _ => rfl) w1 (w.heap.size + 3) (.ok b) h1 HN.out (fun _ _ h => t3_short h)
    (fun w2 b2 hc hr _ => partBack w2 _ _ _ hr (h2 w2 hc)))
  rw [hS] at HX
  have HS := Lib.hid hS
  obtain ⟨bl, hbl⟩ : ∃ m, b.length = m := ⟨_, rfl⟩
  rw [hbl] at CR ⊢
  clear hp hb0 hX0 hA0 hE0 z0 hbl hn y0 y1 b1 b2 hv0 hv1 hw0 hS
  go_enter_defers Try.func10, Try.ntmps10
  go_wp2_with fail
  rw [HW0.out]
  refine CR.out.mono ?_
  rintro e w1 ⟨rfl, hr1, hb1⟩
  have HB1 := Lib.hid (show Below (w.heap.size + 3) w0 w1 from hb1)
  have HR1 := Lib.hid hr1
  have C1 := Lib.hid (CN.out w1 hr1 (fun w2 hc => cell_at (show w2.heap[w.heap.size]? = _ by
    rw [hc.block _ (by have := HR1.out.lt; omega) (by omega), HB1.out.block _ (by omega)]; exact H0.out.2.1) 0))
  clear hr1 hb1
  go_wp2_with fail
  refine C1.out.mono ?_
  rintro e w2 ⟨v, ys, rfl, ho2, hr2, hc2, hv2, -⟩
  rw [HS.out] at hr2 hv2
  have HZ1 := Lib.hid (show w.heap.size + 4 ≤ w1.heap.size from by have := HR1.out.lt; omega)
  have HC2 := Lib.hid hc2
  have HA2 := Lib.hid (show w2.heap[w.heap.size + 1]? = some (.cells #[.slice none 0 0] 22 (0, 0)) by
    rw [hc2.block _ (by have := HZ1.out; omega) (by omega), HB1.out.block _ (by omega)]; exact H0.out.2.2.1)
  have HE2 := Lib.hid (show w2.heap[w.heap.size + 2]? = some (.cells #[.int .i64 0] 28 (0, 0)) by
    rw [hc2.block _ (by have := HZ1.out; omega) (by omega), HB1.out.block _ (by omega)]; exact H0.out.2.2.2.1)
  have HBl2 := Lib.hid (show Below w.heap.size w w2 from (H0.out.1.trans (HB1.out.mono (by omega))).trans (hc2.below (by omega) (by have := HZ1.out; omega)))
  obtain ⟨q3, d3, rfl, _, _, _⟩ := ho2.row
  have HO2 := Lib.hid ho2
  have HV2 := Lib.hid hv2
  obtain ⟨n, hn⟩ : ∃ n, ys.length = n := ⟨_, rfl⟩
  rw [hn] at HO2 ⊢
  have HNN := Lib.hid hn
  have k0 := cell_at HA2.out 0
  have k1 := frozen_at HA2.out 0
  have h3 := set_at HA2.out 0 (.slice q3 n d3)
  have hA3 := HA2.out
  have a0 := cell_at h3 0
  have a1 := frozen_at h3 0
  have e0 := cell_at (show (w2.setCell ⟨w.heap.size + 1, 0, none⟩ (.slice q3 n d3)).heap[w.heap.size + 2]? = some (.cells #[.int .i64 0] 28 (0, 0)) by rw [Below.heap_setCell _ _ _ _ (show w.heap.size + 2 ≠ w.heap.size + 1 by omega)]; exact HE2.out) 0
  have e1 := frozen_at (show (w2.setCell ⟨w.heap.size + 1, 0, none⟩ (.slice q3 n d3)).heap[w.heap.size + 2]? = some (.cells #[.int .i64 0] 28 (0, 0)) by rw [Below.heap_setCell _ _ _ _ (show w.heap.size + 2 ≠ w.heap.size + 1 by omega)]; exact HE2.out) 0
  have hr3 := hr2.set (k := w.heap.size + 1) (o := 0) (u := .slice q3 n d3) (by omega)
  have CE := Lib.hid (end_any _ (w.heap.size + 3) S hr3)
  have HBD := Lib.hid hr2.bd
  obtain ⟨W3, hW3⟩ : ∃ W3, w2.setCell ⟨w.heap.size + 1, 0, none⟩ (.slice q3 n d3) = W3 := ⟨_, rfl⟩
  have HO3 := Lib.hid (show OwnS W3 w1.heap.size (.slice q3 n d3) ys from hW3 ▸ HO2.out.set (by have := HZ1.out; omega))
  have HBl3 := Lib.hid (show Below w.heap.size w W3 from hW3 ▸ HBl2.out.setCell (p := ⟨w.heap.size + 1, 0, none⟩) (by show w.heap.size ≤ w.heap.size + 1; omega) _)
  obtain ⟨E0, hE0⟩ : ∃ E, endE S = E := ⟨_, rfl⟩
  have HEE := Lib.hid (show rdListE b = E0 from by rw [← HX.out.1]; exact hE0)
  have HES := Lib.hid hE0
  rw [hE0] at CE
  rw [hW3] at CE a0 a1 e0 e1 h3
  have HW3 := Lib.hid hW3
  clear hn hv2 ho2 hr2 hc2 hA3 hr3 hE0 hW3
  go_wp2_with fail
  rw [HW3.out]
  refine CE.out.mono ?_
  rintro e w3 ⟨rfl, rfl⟩
  by_cases hz : E0 = 0
  · subst hz
    have HLV := Lib.hid (show ys = (rdListV b).map strB from by
      cases hS : S with
      | error er => exact absurd (by have := HES.out; rw [hS] at this; exact this) (HBD.out er hS)
      | ok r =>
        have h1 := HV2.out r hS
        have h2 := HX.out.2 r hS
        rw [h2] at h1
        simpa using h1)
    go_wp2_with fail
    refine leave_rl (A := w.heap.size + 1) (E := w.heap.size + 2) (v := .slice q3 n d3) (u := .int .i64 0) (by simp [go_sem, a0]) (by simp [go_sem, e0]) rfl rfl ⟨q3, d3, rdListV b, by
        rw [HEE.out, ← HNN.out, HLV.out, List.length_map]; rfl, fun _ => rfl, fun h => absurd HEE.out h, ?_, ?_⟩
    · rw [← HLV.out]
      have := ownS_in (by have := (HO3.out.set (g := w.heap.size + 1) (o := 0) (u := .slice q3 n d3) (by have := HZ1.out; omega)).set (g := w.heap.size + 2) (o := 0) (u := .int .i64 0) (by have := HZ1.out; omega); rwa [← HNN.out] at this)
      rwa [HNN.out] at this
    · exact (HBl3.out.setCell (p := ⟨w.heap.size + 1, 0, none⟩) (by show w.heap.size ≤ w.heap.size + 1; omega) _).setCell (p := ⟨w.heap.size + 2, 0, none⟩) (by show w.heap.size ≤ w.heap.size + 2; omega) _
  · have hzz : ((E0 : Int) != 0) = true := by simp; omega
    have HNE := Lib.hid hz
    clear hz
    go_wp2_with fail
    refine leave_rl (A := w.heap.size + 1) (E := w.heap.size + 2) (v := .slice none 0 0) (u := .int .i64 E0) (by simp [go_sem, a0]) (by simp [go_sem, e0]) rfl rfl ⟨none, 0, [], by rw [HEE.out]; first | done | rfl, fun h => absurd (HEE.out.symm.trans h) HNE.out, fun _ => rfl, Or.inl rfl, ?_⟩
    exact (HBl3.out.setCell (p := ⟨w.heap.size + 1, 0, none⟩) (by show w.heap.size ≤ w.heap.size + 1; omega) _).setCell (p := ⟨w.heap.size + 2, 0, none⟩) (by show w.heap.size ≤ w.heap.size + 2; omega) _
end Go.Proofs.Ytkidahlhnhglfaa
