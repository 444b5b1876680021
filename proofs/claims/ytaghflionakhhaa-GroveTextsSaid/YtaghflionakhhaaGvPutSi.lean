/-
  Layer grove, at string, int: New, Len, Depth, Put.
-/
import Derived.Test.YtaghflionakhhaaGvWithSi
namespace Go.Proofs.Ytaghflionakhhaa
open Go.RowKit Go.Gz

/-- a grove in block gb, its nodes in blocks from B on. -/
structure GrSi (cv : Value) (B : Nat) (w : World) (gb : Nat) (t : GT ByteArray Int) : Prop where
  gB : gb < B
  hB : B ≤ w.heap.size
  blk : ∃ p, w.heap[gb]? = some (.cells #[cv, .pointer p] 73 (0, 0)) ∧ TrSi (fun j => B ≤ j) w p t

theorem GrSi.below {cv : Value} {B : Nat} {w W : World} {gb : Nat} {t : GT ByteArray Int} (h : GrSi cv B w gb t) (hb : Below w.heap.size w W) : GrSi cv B W gb t := by
  obtain ⟨h1, h2, p, h3, h4⟩ := h
  exact ⟨h1, by have := hb.size; omega, p, by rw [hb.block gb (Array.getElem?_eq_some_iff.1 h3).1]; exact h3, TrS.below h4 hb⟩

theorem new_anySi (F : FuncId) (w : World) : Calls Try.prog 17 #[.func (.func F) #[] #[]] w fun e w' => e = .returned (.pointer (some ⟨w.heap.size, 0, none⟩)) ∧ GrSi (.func (.func F) #[] #[]) (w.heap.size + 1) w' w.heap.size .nil ∧ Below w.heap.size w w' ∧ w'.heap.size = w.heap.size + 1 := by
  go_enter Try.func17, Try.ntmps17
  go_wp2_with fail
  go_ret
  refine ⟨rfl, ⟨by omega, by simp, none, ?_, rfl⟩, (Below.refl _ _).alloc (Nat.le_refl _) _, by simp⟩
  show (w.heap.push _)[w.heap.size]? = _
  simp

theorem new_nilSi (w : World) : Calls Try.prog 17 #[.nilFunc] w fun e w' => e = .returned (.pointer (some ⟨w.heap.size, 0, none⟩)) ∧ GrSi .nilFunc (w.heap.size + 1) w' w.heap.size .nil ∧ Below w.heap.size w w' ∧ w'.heap.size = w.heap.size + 1 := by
  go_enter Try.func17, Try.ntmps17
  go_wp2_with fail
  go_ret
  refine ⟨rfl, ⟨by omega, by simp, none, ?_, rfl⟩, (Below.refl _ _).alloc (Nat.le_refl _) _, by simp⟩
  show (w.heap.push _)[w.heap.size]? = _
  simp

theorem top_anySi (gb : Nat) (p : Option Addr) (w : World) (h : w.cell? ⟨gb, 1, none⟩ = some (.pointer p)) : Calls Try.prog 60 #[.pointer (some ⟨gb, 0, none⟩)] w fun e w' => e = .returned (.pointer p) ∧ w = w' := by
  go_enter Try.func60, Try.ntmps60
  go_wp2_with fail
  go_ret
  exact ⟨rfl, rfl⟩

theorem glen_anySi {cv : Value} {B : Nat} {w : World} {gb : Nat} {t : GT ByteArray Int} (h : GrSi cv B w gb t) (hm : t.many ≤ 1000000000) : Calls Try.prog 22 #[.pointer (some ⟨gb, 0, none⟩)] w fun e w' => e = .returned (.int .i64 (t.many : Nat)) ∧ w = w' := by
  obtain ⟨h1, h2, p, h3, h4⟩ := h
  have CT := Lib.hid (top_anySi gb p w (cell_at h3 1))
  have CL := Lib.hid (len_anySi h4 hm)
  clear h1 h2 h3 h4 hm
  go_enter Try.func22, Try.ntmps22
  go_wp2_with fail
  refine CT.out.mono ?_
  rintro e wz ⟨rfl, rfl⟩
  go_wp2_with fail
  refine CL.out.mono ?_
  rintro e wz ⟨rfl, rfl⟩
  go_wp2_with fail
  go_ret
  exact ⟨rfl, rfl⟩

/-- what the closure of Put leaves: a tree with what was put, laid into block a. -/
def MadeSi (S : Nat → Prop) (a : Nat) (w : World) (t : GT ByteArray Int) (w' : World) : Prop := ∃ r w1, w' = w1.setCell ⟨a, 0, none⟩ (.pointer r) ∧ TrSi S w1 r t ∧ Below w.heap.size w w1

set_option maxHeartbeats 1000000 in
theorem put1_anySi {S : Nat → Prop} {F : FuncId} {c : ByteArray → ByteArray → Int} {P : ByteArray → Prop} (hO : OrdSi F c P) (gb : Nat) (k : ByteArray) (v : Int) (t : GT ByteArray Int) (w : World) (p q : Option Addr) (n : Nat)
    (hz : n + 4 < w.heap.size) (hgl : gb < w.heap.size) (hg : w.cell? ⟨gb, 0, none⟩ = some (.func (.func F) #[] #[])) (ht : TrSi S w p t) (hS : ∀ j, w.heap.size ≤ j → S j) (hm : t.many ≤ 1000000) (hk : P k) (hp : ∀ q ∈ t.list, P q.1)
    (c0 : w.cell? ⟨n, 0, none⟩ = some (.pointer (some ⟨gb, 0, none⟩))) (c1 : w.cell? ⟨n + 4, 0, none⟩ = some (.pointer p)) (c2 : w.cell? ⟨n + 1, 0, none⟩ = some (.string k)) (c3 : w.cell? ⟨n + 2, 0, none⟩ = some (.int .i64 v))
    (c4 : w.cell? ⟨n + 3, 0, none⟩ = some (.pointer q)) (f4 : w.frozen? ⟨n + 3, 0, none⟩ = false) :
    Calls Try.prog 55 #[.pointer (some ⟨n, 0, none⟩), .pointer (some ⟨n + 4, 0, none⟩), .pointer (some ⟨n + 1, 0, none⟩), .pointer (some ⟨n + 2, 0, none⟩), .pointer (some ⟨n + 3, 0, none⟩)] w
      fun e w' => e = .returned (.tuple #[]) ∧ MadeSi S (n + 3) w (withT c k v t) w' := by
  have C := Lib.hid (with_anySi hO gb k v t w p hgl hg ht hS hm hk hp)
  have HZ := Lib.hid hz
  have HC4 := Lib.hid c4
  have HF4 := Lib.hid f4
  have bi := build_itemSi k v w
  clear hgl hg ht hS hm hk hp hO c4 f4 hz
  go_enter Try.func55, Try.ntmps55
  go_wp2_with fail
  refine C.out.mono ?_
  rintro e w1 ⟨r, rfl, ht, hb⟩
  have c4 : w1.cell? ⟨n + 3, 0, none⟩ = some (.pointer q) := by rw [hb.cell (p := ⟨n + 3, 0, none⟩) (by have := HZ.out; show n + 3 < _; omega)]; exact HC4.out
  have f4 : w1.frozen? ⟨n + 3, 0, none⟩ = false := by rw [hb.frozen (p := ⟨n + 3, 0, none⟩) (by have := HZ.out; show n + 3 < _; omega)]; exact HF4.out
  have HT := Lib.hid ht
  have HB := Lib.hid hb
  clear ht hb C c0 c1 c2 c3 bi
  go_wp2_with fail
  exact bodyPost_end (v := .tuple #[]) (by simp [results, Try.results55]) rfl ⟨rfl, r, w1, rfl, HT.out, HB.out⟩

set_option maxHeartbeats 4000000 in
set_option maxRecDepth 100000 in
theorem put_anySi {F : FuncId} {c : ByteArray → ByteArray → Int} {P : ByteArray → Prop} (hO : OrdSi F c P) (gb B : Nat) (k : ByteArray) (v : Int) (t : GT ByteArray Int) (w : World) (hg : GrSi (.func (.func F) #[] #[]) B w gb t) (hm : t.many ≤ 100000) (hk : P k) (hp : ∀ q ∈ t.list, P q.1) :
    Calls Try.prog 19 #[.pointer (some ⟨gb, 0, none⟩), .string k, .int .i64 v] w fun e w' => e = .returned (.bool (decide ((withT c k v t).many = t.many))) ∧ GrSi (.func (.func F) #[] #[]) B w' gb (withT c k v t) ∧ Chg gb w w' := by
  have mx := mixedS
  have hmf : ∀ (fn : Fn) (first cap : Array Value) (w : World), (Instr.makeFunc fn first cap).run Try.prog w = .ok (.func fn first cap) w := fun _ _ _ _ => rfl
  have hfn : ∀ w : World, (binOp .eql 38 (.func (.func F) #[] #[]) .nilFunc).run Try.prog w = .ok (.bool false) w := fun _ => by kernel_rfl
  have hml := with_many_le c k v t
  obtain ⟨gB, hB, p, hblk, ht⟩ := hg
  have hgl := (Array.getElem?_eq_some_iff.1 hblk).1
  obtain ⟨w1, hw1⟩ : ∃ w1, ((w.alloc (.cells #[.pointer (some ⟨gb, 0, none⟩)] 36)).alloc (.cells #[.string k] 9)).alloc (.cells #[.int .i64 v] 3) = w1 := ⟨_, rfl⟩
  have hb1 : Below w.heap.size w w1 := hw1 ▸ (((Below.refl _ _).alloc (Nat.le_refl _) _).alloc (by simp) _).alloc (by simp; omega) _
  have z1 : w1.heap.size = w.heap.size + 3 := by rw [← hw1]; simp
  have k1 : w1.heap[gb]? = some (.cells #[.func (.func F) #[] #[], .pointer p] 73 (0, 0)) := by rw [hb1.block gb hgl]; exact hblk
  have c0 : w1.cell? ⟨gb, 0, none⟩ = some (.func (.func F) #[] #[]) := cell_at k1 0
  have a0 : w1.cell? ⟨w.heap.size, 0, none⟩ = some (.pointer (some ⟨gb, 0, none⟩)) := by rw [← hw1]; simp [go_sem]
  have a1 : w1.cell? ⟨w.heap.size + 1, 0, none⟩ = some (.string k) := by rw [← hw1]; simp [go_sem]
  have a2 : w1.cell? ⟨w.heap.size + 1 + 1, 0, none⟩ = some (.int .i64 v) := by rw [← hw1]; simp [go_sem]
  obtain ⟨w2, hw2⟩ : ∃ w2, w1.alloc (.cells #[.pointer none] 71) = w2 := ⟨_, rfl⟩
  have hb2 : Below w1.heap.size w1 w2 := hw2 ▸ (Below.refl _ _).alloc (Nat.le_refl _) _
  have z2 : w2.heap.size = w.heap.size + 4 := by rw [← hw2]; simp [z1]
  have b0 : w2.cell? ⟨w.heap.size, 0, none⟩ = some (.pointer (some ⟨gb, 0, none⟩)) := by rw [hb2.cell (p := ⟨w.heap.size, 0, none⟩) (by show w.heap.size < _; omega)]; exact a0
  have k2 : w2.heap[gb]? = some (.cells #[.func (.func F) #[] #[], .pointer p] 73 (0, 0)) := by rw [hb2.block gb (by omega)]; exact k1
  have b1 : w2.cell? ⟨gb, 1, none⟩ = some (.pointer p) := cell_at k2 1
  have b3 : w2.cell? ⟨w.heap.size + 3, 0, none⟩ = some (.pointer none) := by rw [← hw2, ← z1]; simp [go_sem]
  have g3 : w2.frozen? ⟨w.heap.size + 3, 0, none⟩ = false := by rw [← hw2, ← z1]; simp [go_sem]
  obtain ⟨w3, hw3⟩ : ∃ w3, w2.alloc (.cells #[.pointer p] 71) = w3 := ⟨_, rfl⟩
  have hb3 : Below w2.heap.size w2 w3 := hw3 ▸ (Below.refl _ _).alloc (Nat.le_refl _) _
  have z3 : w3.heap.size = w.heap.size + 5 := by rw [← hw3]; simp [z2]
  have d4 : w3.cell? ⟨w.heap.size + 4, 0, none⟩ = some (.pointer p) := by rw [← hw3, ← z2]; simp [go_sem]
  have hb03 : Below w.heap.size w w3 := (hb1.trans (hb2.mono (by omega))).trans (hb3.mono (by omega))
  have k3 : w3.heap[gb]? = some (.cells #[.func (.func F) #[] #[], .pointer p] 73 (0, 0)) := by rw [hb03.block gb hgl]; exact hblk
  have bc3 : ∀ i, i < w2.heap.size → w3.cell? ⟨i, 0, none⟩ = w2.cell? ⟨i, 0, none⟩ := fun i hi => hb3.cell (p := ⟨i, 0, none⟩) hi
  have bc2 : ∀ i, i < w1.heap.size → w2.cell? ⟨i, 0, none⟩ = w1.cell? ⟨i, 0, none⟩ := fun i hi => hb2.cell (p := ⟨i, 0, none⟩) hi
  have ht3 : TrSi (fun j => B ≤ j ∧ (j < w.heap.size ∨ w.heap.size + 5 ≤ j)) w3 p t := TrS.below (TrS.mono (fun j h1 h2 => ⟨h1, .inl h2⟩) ht) hb03
  have C1 := Lib.hid (put1_anySi (S := fun j => B ≤ j ∧ (j < w.heap.size ∨ w.heap.size + 5 ≤ j)) hO gb k v t w3 p none w.heap.size (by omega) (by omega) (cell_at k3 0) ht3 (fun j hj => by omega) (by omega) hk hp
    (by rw [bc3 _ (by omega), bc2 _ (by omega)]; exact a0) d4 (by rw [bc3 _ (by omega), bc2 _ (by omega)]; exact a1) (by rw [bc3 _ (by omega), bc2 _ (by omega)]; exact a2)
    (by rw [bc3 _ (by omega)]; exact b3) (by rw [hb3.frozen (p := ⟨w.heap.size + 3, 0, none⟩) (by show w.heap.size + 3 < _; omega)]; exact g3))
  have CC := Lib.hid (calm_any 55 #[.pointer (some ⟨w.heap.size, 0, none⟩), .pointer (some ⟨w.heap.size + 4, 0, none⟩), .pointer (some ⟨w.heap.size + 1, 0, none⟩), .pointer (some ⟨w.heap.size + 1 + 1, 0, none⟩), .pointer (some ⟨w.heap.size + 3, 0, none⟩)] (fun _ _ => rfl) w3 _ C1.out)
  have HK3 := Lib.hid k3
  have HA := Lib.hid (show w3.cell? ⟨w.heap.size, 0, none⟩ = some (.pointer (some ⟨gb, 0, none⟩)) by rw [bc3 _ (by omega), bc2 _ (by omega)]; exact a0)
  have HD4 := Lib.hid d4
  have H3 := Lib.hid (show w3.cell? ⟨w.heap.size + 3, 0, none⟩ = some (.pointer none) by rw [bc3 _ (by omega)]; exact b3)
  have HZ3 := Lib.hid z3
  have HB03 := Lib.hid hb03
  have HT := Lib.hid ht3
  have HHB := Lib.hid hB
  have HGB := Lib.hid gB
  have HML := Lib.hid hml
  have HM := Lib.hid hm
  have HGL := Lib.hid hgl
  clear hblk ht ht3 hB gB hml hm hO hk hp hb1 hb2 hb3 hb03 k1 k2 k3 bc2 bc3 a1 a2 b3 g3 d4 C1
  have e1 : w1.heap.size = w.heap.size + 3 := z1
  have e2 : w2.heap.size = w.heap.size + 4 := z2
  clear z1 z2 z3
  go_enter Try.func19, Try.ntmps19
  go_wp2_with fail
  clear hw1 hw2 hw3 a0 b0 b1 c0 hmf hfn
  refine CC.out.mono ?_
  rintro e w4' ⟨rfl, r, w4, rfl, ht4, hb4⟩
  obtain ⟨xk, xv, xl, xr, hx⟩ := with_node c k v t
  have HX := Lib.hid hx
  rw [hx] at ht4
  obtain ⟨g, pl, pr, rfl, -⟩ := TrS.node ht4
  obtain ⟨n, hn⟩ : ∃ n, w.heap.size = n := ⟨_, rfl⟩
  have HN := Lib.hid hn
  rw [hn] at e1 e2 ⊢
  have hz4 : n + 5 ≤ w4.heap.size := by have := hb4.size; have := HZ3.out; omega
  have x0 : w4.cell? ⟨n, 0, none⟩ = some (.pointer (some ⟨gb, 0, none⟩)) := by rw [hb4.cell (p := ⟨n, 0, none⟩) (by have := HZ3.out; show n < _; omega), ← hn]; exact HA.out
  have x3 : w4.cell? ⟨n + 3, 0, none⟩ = some (.pointer none) := by rw [hb4.cell (p := ⟨n + 3, 0, none⟩) (by have := HZ3.out; show n + 3 < _; omega), ← hn]; exact H3.out
  have x4 : w4.cell? ⟨n + 4, 0, none⟩ = some (.pointer p) := by rw [hb4.cell (p := ⟨n + 4, 0, none⟩) (by have := HZ3.out; show n + 4 < _; omega), ← hn]; exact HD4.out
  have xk4 : w4.heap[gb]? = some (.cells #[.func (.func F) #[] #[], .pointer p] 73 (0, 0)) := by rw [hb4.block gb (by have := HZ3.out; have := HGL.out; omega)]; exact HK3.out
  have hgn : gb < n := by have := HGL.out; omega
  have hc04 : Chg gb w w4 := .of_below ((HB03.out.trans (hb4.mono HB03.out.size)))
  obtain ⟨w5, hw5⟩ : ∃ w5, w4.setCell ⟨n + 3, 0, none⟩ (.pointer (some ⟨g, 0, none⟩)) = w5 := ⟨_, rfl⟩
  have hs5 : Chg (n + 3) w4 w5 := hw5 ▸ Chg.set 0 _
  have y0 : w5.cell? ⟨n, 0, none⟩ = some (.pointer (some ⟨gb, 0, none⟩)) := by rw [hs5.cell (by omega) (by omega)]; exact x0
  have y3 : w5.cell? ⟨n + 3, 0, none⟩ = some (.pointer (some ⟨g, 0, none⟩)) := by rw [← hw5]; simp [go_sem, x3]
  have y4 : w5.cell? ⟨n + 4, 0, none⟩ = some (.pointer p) := by rw [hs5.cell (by omega) (by omega)]; exact x4
  have yk5 : w5.heap[gb]? = some (.cells #[.func (.func F) #[] #[], .pointer p] 73 (0, 0)) := by rw [hs5.block gb (by omega) (by omega)]; exact xk4
  have y1 : w5.cell? ⟨gb, 1, none⟩ = some (.pointer p) := cell_at yk5 1
  have yf : w5.frozen? ⟨gb, 1, none⟩ = false := frozen_at yk5 1
  obtain ⟨w6, hw6⟩ : ∃ w6, w5.setCell ⟨gb, 1, none⟩ (.pointer (some ⟨g, 0, none⟩)) = w6 := ⟨_, rfl⟩
  have hs6 : Chg gb w5 w6 := hw6 ▸ Chg.set 1 _
  have hz5 : n + 5 ≤ w5.heap.size := by have := hs5.size; omega
  have HY3 := Lib.hid (show w6.cell? ⟨n + 3, 0, none⟩ = some (.pointer (some ⟨g, 0, none⟩)) by rw [hs6.cell (by omega) (by omega)]; exact y3)
  have HY4 := Lib.hid (show w6.cell? ⟨n + 4, 0, none⟩ = some (.pointer p) by rw [hs6.cell (by omega) (by omega)]; exact y4)
  have HYK := Lib.hid (show w6.heap[gb]? = some (.cells #[.func (.func F) #[] #[], .pointer (some ⟨g, 0, none⟩)] 73 (0, 0)) from hw6 ▸ set_at yk5 1 _)
  have HZ6 := Lib.hid (show n + 5 ≤ w6.heap.size by have := hs6.size; omega)
  have HT6 := Lib.hid (show TrSi (fun j => B ≤ j ∧ (j < w.heap.size ∨ w.heap.size + 5 ≤ j)) w6 (some ⟨g, 0, none⟩) (withT c k v t) from hx ▸ TrS.chg (TrS.chg ht4 hs5 (by have := HHB.out; omega)) hs6 (by have := HGB.out; omega))
  have HO6 := Lib.hid (show TrSi (fun j => B ≤ j ∧ (j < w.heap.size ∨ w.heap.size + 5 ≤ j)) w6 p t from TrS.chg (TrS.chg (TrS.below HT.out hb4) hs5 (by have := HHB.out; omega)) hs6 (by have := HGB.out; omega))
  have hc45 : Chg gb w w5 := ⟨hs5.os.trans hc04.os, hs5.tape.trans hc04.tape, hs5.output.trans hc04.output, Nat.le_trans hc04.size hs5.size, fun j hj hg => (hs5.block j (by omega) (by omega)).trans (hc04.block j hj hg)⟩
  have HC6 := Lib.hid (hc45.trans hs6)
  clear hs5 hs6 hc45 hc04 yk5 xk4 ht4 hb4 hx x0 x3 x4 HT HX HK3 HA HD4 H3 HZ3 HB03 CC e1 e2 hn
  rw [hw5]
  clear hw5
  go_wp2_with fail
  clear hw6 y0 y3 y4 y1 yf
  refine wp_region_mono mx (by kernel_rfl) [VP.eq (.pointer (some ⟨g, 0, none⟩)), VP.eq (.int .i64 ((withT c k v t).many : Nat)), VP.eq (.pointer p), VP.eq (.int .i64 (t.many : Nat)), VP.eq (.bool (decide ((withT c k v t).many = t.many))), VP.eq (.bool (decide ((withT c k v t).many = t.many)))] ?_ ?_
  · intro i o L vals w7 hi hL hdep hC hJ hV
    have hlt : i < 6 := by have := (List.getElem?_eq_some_iff.1 hi).1; simpa using this
    generalize hA : frA _ _ L vals = a'
    have hT7 : a'.tmps.getD 7 undef = .pointer (some ⟨(n + 3), 0, none⟩) := by rw [← hA, frA_base (by kernel_rfl)]; rfl
    have hT8 : a'.tmps.getD 8 undef = .pointer (some ⟨(n + 4), 0, none⟩) := by rw [← hA, frA_base (by kernel_rfl)]; rfl
    have hD := Lib.hid (fun k t (hk : L k = true) (ht : dstOf _ k = some t) => hA ▸ frA_done (by kernel_rfl) (vals := vals) hk ht)
    clear hA
    have u3 : w7.cell? ⟨n + 3, 0, none⟩ = some (.pointer (some ⟨g, 0, none⟩)) := by rw [hJ.cell (p := ⟨n + 3, 0, none⟩) (by have := HZ6.out; show n + 3 < _; omega)]; exact HY3.out
    have u4 : w7.cell? ⟨n + 4, 0, none⟩ = some (.pointer p) := by rw [hJ.cell (p := ⟨n + 4, 0, none⟩) (by have := HZ6.out; show n + 4 < _; omega)]; exact HY4.out
    obtain rfl | rfl | rfl | rfl | rfl | rfl : i = 0 ∨ i = 1 ∨ i = 2 ∨ i = 3 ∨ i = 4 ∨ i = 5 := by omega
    all_goals
      injection hi with hi
      subst hi
      try simp [Region.binds] at hdep
    · exact step_run rfl (v := .pointer (some ⟨g, 0, none⟩)) (w' := w7) (by go_simp) ⟨rfl, Below.refl _ _⟩
    · have d30 := hD.out 0 30 (by simp [hdep]) rfl
      rw [show vals 0 = .pointer (some ⟨g, 0, none⟩) from hV 0 (by simp [hdep])] at d30
      refine step_enter rfl (w' := w7) (by go_simp) ((len_anySi (TrS.below HT6.out hJ) (by have := HML.out; have := HM.out; omega)).mono ?_)
      rintro e w1 ⟨rfl, rfl⟩
      exact ⟨_, rfl, rfl, Below.refl _ _⟩
    · exact step_run rfl (v := .pointer p) (w' := w7) (by go_simp) ⟨rfl, Below.refl _ _⟩
    · have d32 := hD.out 2 32 (by simp [hdep]) rfl
      rw [show vals 2 = .pointer p from hV 2 (by simp [hdep])] at d32
      refine step_enter rfl (w' := w7) (by go_simp) ((len_anySi (TrS.below HO6.out hJ) (by have := HM.out; omega)).mono ?_)
      rintro e w1 ⟨rfl, rfl⟩
      exact ⟨_, rfl, rfl, Below.refl _ _⟩
    · have d31 := hD.out 1 31 (by simp [hdep]) rfl
      rw [show vals 1 = .int .i64 ((withT c k v t).many : Nat) from hV 1 (by simp [hdep])] at d31
      have d33 := hD.out 3 33 (by simp [hdep]) rfl
      rw [show vals 3 = .int .i64 (t.many : Nat) from hV 3 (by simp [hdep])] at d33
      exact step_run rfl (v := .bool (decide ((withT c k v t).many = t.many))) (w' := w7) (by go_simp; (rw [Bool.eq_iff_iff]; simp only [beq_iff_eq, decide_eq_true_eq]; omega)) ⟨rfl, Below.refl _ _⟩
    · have d34 := hD.out 4 34 (by simp [hdep]) rfl
      rw [show vals 4 = .bool (decide ((withT c k v t).many = t.many)) from hV 4 (by simp [hdep])] at d34
      exact step_run rfl (v := .bool (decide ((withT c k v t).many = t.many))) (w' := w7) (by go_simp) ⟨rfl, Below.refl _ _⟩
  · intro vals w7 hJ hV
    have e0 : vals 0 = .pointer (some ⟨g, 0, none⟩) := hV 0 (by decide)
    have e1 : vals 1 = .int .i64 ((withT c k v t).many : Nat) := hV 1 (by decide)
    have e2 : vals 2 = .pointer p := hV 2 (by decide)
    have e3 : vals 3 = .int .i64 (t.many : Nat) := hV 3 (by decide)
    have e4 : vals 4 = .bool (decide ((withT c k v t).many = t.many)) := hV 4 (by decide)
    have e5 : vals 5 = .bool (decide ((withT c k v t).many = t.many)) := hV 5 (by decide)
    simp only [putsL, Act.put, List.setIfInBounds_toArray, List.set_cons_zero, List.set_cons_succ, e0, e1, e2, e3, e4, e5]
    clear e0 e1 e2 e3 e4 e5
    have HB7 := Lib.hid hJ
    clear hJ hV
    go_wp2_with fail
    go_ret
    refine ⟨rfl, ⟨HGB.out, by have := HHB.out; have := HZ6.out; have := HB7.out.size; have := HN.out; omega, _, ?_, TrS.mono (fun j h1 _ => h1.1) (TrS.below HT6.out HB7.out)⟩, HC6.out.trans (.of_below HB7.out)⟩
    rw [HB7.out.block gb (by have := HZ6.out; omega)]
    exact HYK.out
end Go.Proofs.Ytaghflionakhhaa
