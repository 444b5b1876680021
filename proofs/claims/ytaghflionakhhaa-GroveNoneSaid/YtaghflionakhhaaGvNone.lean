/-
  Layer grove: a grove without an order, and one without anything; the law GroveNone.
-/
import Derived.Test.YtaghflionakhhaaGvAwake
import Derived.Test.YtaghflionakhhaaGvGoIi
import Derived.Test.YtaghflionakhhaaGvOutIi
namespace Go.Proofs.Ytaghflionakhhaa
open Go.RowKit Go.Gz

set_option maxRecDepth 100000 in
theorem put_nil {B : Nat} {w : World} {gb : Nat} {t : GT Int Int} (h : GrIi .nilFunc B w gb t) (k v : Int) : Calls Try.prog 10 #[.pointer (some ⟨gb, 0, none⟩), .int .i64 k, .int .i64 v] w fun e w' => e = .returned (.bool false) ∧ Below w.heap.size w w' := by
  obtain ⟨gB, hB, p, hblk, ht⟩ := h
  have hgl := (Array.getElem?_eq_some_iff.1 hblk).1
  have hfn : ∀ w : World, (binOp .eql 26 .nilFunc .nilFunc).run Try.prog w = .ok (.bool true) w := fun _ => by kernel_rfl
  obtain ⟨w1, hw1⟩ : ∃ w1, ((w.alloc (.cells #[.pointer (some ⟨gb, 0, none⟩)] 24)).alloc (.cells #[.int .i64 k] 3)).alloc (.cells #[.int .i64 v] 3) = w1 := ⟨_, rfl⟩
  have hb1 : Below w.heap.size w w1 := hw1 ▸ (((Below.refl _ _).alloc (Nat.le_refl _) _).alloc (by simp) _).alloc (by simp; omega) _
  have c0 : w1.cell? ⟨gb, 0, none⟩ = some .nilFunc := by rw [hb1.cell (p := ⟨gb, 0, none⟩) hgl]; exact cell_at hblk 0
  have a0 : w1.cell? ⟨w.heap.size, 0, none⟩ = some (.pointer (some ⟨gb, 0, none⟩)) := by rw [← hw1]; simp [go_sem]
  have HB := Lib.hid hb1
  clear gB hB hblk ht hb1
  go_enter Try.func10, Try.ntmps10
  go_wp2_with fail
  go_ret
  exact ⟨rfl, HB.out⟩

set_option maxRecDepth 100000 in
theorem find_empty (gb : Nat) (k : Int) (w : World) (h : w.cell? ⟨gb, 1, none⟩ = some (.pointer none)) : Calls Try.prog 62 #[.pointer (some ⟨gb, 0, none⟩), .int .i64 k] w fun e w' => e = .returned (.pointer none) ∧ w = w' := by
  have CT := Lib.hid (top_anyIi gb none w h)
  clear h
  go_enter Try.func62, Try.ntmps62
  go_wp2_with fail
  refine CT.out.mono ?_
  rintro e wz ⟨rfl, rfl⟩
  go_wp2_with fail
  go_loopg [5] 0 (fun gg v wr => v = .pointer none ∧ w = wr)
  case atStart => exact ⟨rfl, rfl⟩
  case round =>
    obtain ⟨rfl, rfl⟩ := hrel
    go_wp2_with fail
    go_ret
    exact ⟨rfl, rfl⟩

set_option maxRecDepth 100000 in
theorem get1_empty (gb n : Nat) (k : Int) (w : World) (h : w.cell? ⟨gb, 1, none⟩ = some (.pointer none)) (c0 : w.cell? ⟨n, 0, none⟩ = some (.pointer (some ⟨gb, 0, none⟩))) (c1 : w.cell? ⟨n + 1, 0, none⟩ = some (.int .i64 k)) (c2 : w.cell? ⟨n + 2, 0, none⟩ = some (.pointer none)) (f2 : w.frozen? ⟨n + 2, 0, none⟩ = false) :
    Calls Try.prog 61 #[.pointer (some ⟨n, 0, none⟩), .pointer (some ⟨n + 1, 0, none⟩), .pointer (some ⟨n + 2, 0, none⟩)] w fun e w' => e = .returned (.tuple #[]) ∧ w.setCell ⟨n + 2, 0, none⟩ (.pointer none) = w' := by
  have CF := Lib.hid (find_empty gb k w h)
  clear h
  go_enter Try.func61, Try.ntmps61
  go_wp2_with fail
  refine CF.out.mono ?_
  rintro e wz ⟨rfl, rfl⟩
  go_wp2_with fail
  exact bodyPost_end (v := .tuple #[]) (by simp [results, Try.results61]) rfl ⟨rfl, rfl⟩

set_option maxRecDepth 100000 in
theorem get_empty {cv : Value} {B : Nat} {w : World} {gb : Nat} (hg : GrIi cv B w gb .nil) (k : Int) : Calls Try.prog 24 #[.pointer (some ⟨gb, 0, none⟩), .int .i64 k] w fun e w' => e = .returned (.tuple #[.int .i64 0, .bool false]) ∧ Below w.heap.size w w' := by
  have hmf : ∀ (fn : Fn) (first cap : Array Value) (w : World), (Instr.makeFunc fn first cap).run Try.prog w = .ok (.func fn first cap) w := fun _ _ _ _ => rfl
  obtain ⟨gB, hB, p, hblk, ht⟩ := hg
  obtain rfl : p = none := ht
  have hgl := (Array.getElem?_eq_some_iff.1 hblk).1
  obtain ⟨w1, hw1⟩ : ∃ w1, ((w.alloc (.cells #[.pointer (some ⟨gb, 0, none⟩)] 24)).alloc (.cells #[.int .i64 k] 3)).alloc (.cells #[.pointer none] 55) = w1 := ⟨_, rfl⟩
  have hb1 : Below w.heap.size w w1 := hw1 ▸ (((Below.refl _ _).alloc (Nat.le_refl _) _).alloc (by simp) _).alloc (by simp; omega) _
  have a0 : w1.cell? ⟨w.heap.size, 0, none⟩ = some (.pointer (some ⟨gb, 0, none⟩)) := by rw [← hw1]; simp [go_sem]
  have a1 : w1.cell? ⟨w.heap.size + 1, 0, none⟩ = some (.int .i64 k) := by rw [← hw1]; simp [go_sem]
  have a2 : w1.cell? ⟨w.heap.size + 2, 0, none⟩ = some (.pointer none) := by rw [← hw1]; simp [go_sem]
  have f2 : w1.frozen? ⟨w.heap.size + 2, 0, none⟩ = false := by rw [← hw1]; simp [go_sem]
  have C1 := get1_empty gb w.heap.size k w1 (by rw [hb1.cell (p := ⟨gb, 1, none⟩) hgl]; exact cell_at hblk 1) a0 a1 a2 f2
  have CC := Lib.hid (calm_any 61 #[.pointer (some ⟨w.heap.size, 0, none⟩), .pointer (some ⟨w.heap.size + 1, 0, none⟩), .pointer (some ⟨w.heap.size + 1 + 1, 0, none⟩)] (fun _ _ => rfl) w1 (fun w' => w1.setCell ⟨w.heap.size + 2, 0, none⟩ (.pointer none) = w') C1)
  have HB := Lib.hid hb1
  have HA2 := Lib.hid a2
  clear gB hB hblk hb1 a0 a1 a2 f2 C1
  go_enter Try.func24, Try.ntmps24
  go_wp2_with fail
  refine CC.out.mono ?_
  rintro e w2 ⟨rfl, rfl⟩
  have c2 : (w1.setCell ⟨w.heap.size + 1 + 1, 0, none⟩ (.pointer none)).cell? ⟨w.heap.size + 1 + 1, 0, none⟩ = some (.pointer none) := by simp [go_sem, show w1.cell? ⟨w.heap.size + 1 + 1, 0, none⟩ = some (.pointer none) from HA2.out]
  have CV := Lib.hid (fun w => value_anyIi (S := fun _ => True) (w := w) (p := none) (t := .nil) TrS.nil)
  have HB2 := Lib.hid (HB.out.setCell (p := ⟨w.heap.size + 2, 0, none⟩) (by show w.heap.size ≤ w.heap.size + 2; omega) (.pointer none))
  clear hw1
  go_wp2_with fail
  refine (CV.out _).mono ?_
  rintro e w3 ⟨rfl, hb3⟩
  have HB3 := Lib.hid (HB2.out.trans (hb3.mono HB2.out.size))
  clear hb3
  go_wp2_with fail
  go_ret2
  exact ⟨rfl, HB3.out⟩

set_option maxRecDepth 100000 in
theorem least_empty {cv : Value} {B : Nat} {w : World} {gb : Nat} (hg : GrIi cv B w gb .nil) : Calls Try.prog 25 #[.pointer (some ⟨gb, 0, none⟩)] w fun e w' => e = .returned (.tuple #[.int .i64 0, .int .i64 0, .bool false]) ∧ Below w.heap.size w w' := by
  obtain ⟨gB, hB, p, hblk, ht⟩ := hg
  obtain rfl : p = none := ht
  have CT := Lib.hid (top_anyIi gb none w (cell_at hblk 1))
  clear gB hB hblk
  go_enter Try.func25, Try.ntmps25
  go_wp2_with fail
  refine CT.out.mono ?_
  rintro e wz ⟨rfl, rfl⟩
  go_wp2_with fail
  go_quiet (fail)
  go_wp2_with fail
  go_ret3
  exact ⟨rfl, below_drewN ((Below.refl _ _).alloc (Nat.le_refl _) _) _⟩

set_option maxRecDepth 100000 in
theorem no_ord : OrdIi 23 (fun a b => a - b) smallK where
  eg := fun _ _ => rfl
  hF := fun a b w ha hb => by
    obtain ⟨h1, h2⟩ := ha
    obtain ⟨h3, h4⟩ := hb
    go_enter Try.func23, Try.ntmps23
    go_wp2_with fail
    go_ret
    exact ⟨rfl, rfl⟩

def noF (s : Int) (_ : Int) (_ : Int) : Int × Bool := (s + 1, true)
set_option maxRecDepth 100000 in
theorem no_see (m : Nat) (w0 : World) : SeesIi noF 26 #[.pointer (some ⟨m, 0, none⟩)] (fun s _ => 0 ≤ s ∧ s ≤ 100000) (fun j => j ≠ m) w0 (fun s w => OneJ w0 m (.int .i64 s) w) where
  eg := fun _ _ => rfl
  hs := fun s k v w hj ha => by
    have c0 := hj.cell
    have f0 := hj.fr
    have HJ := Lib.hid hj
    obtain ⟨h1, h2⟩ := ha
    clear hj
    go_enter Try.func26, Try.ntmps26
    go_wp2_with fail
    go_ret
    exact ⟨rfl, HJ.out.set⟩
  hb := fun s w w' h hb => h.below hb
  hz := fun s w h => h.chg.size
  hk := fun s w h j hj hlt => h.chg.block j hlt hj

set_option maxHeartbeats 4000000 in
set_option maxRecDepth 100000 in
theorem none_walk (w : World) : Calls Try.prog 5 #[] w fun e w' => e = .returned (.bool true) ∧ Below w.heap.size w w' := by
  have hmf : ∀ (fn : Fn) (first cap : Array Value) (w : World), (Instr.makeFunc fn first cap).run Try.prog w = .ok (.func fn first cap) w := fun _ _ _ _ => rfl
  have CA := Lib.hid (awake_true w)
  go_enter Try.func5, Try.ntmps5
  go_wp2_with fail
  refine CA.out.mono ?_
  rintro e w1 ⟨rfl, hb1⟩
  have HB1 := Lib.hid hb1
  have CN := Lib.hid (new_nilIi w1)
  obtain ⟨n, hn⟩ : ∃ n, w1.heap.size = n := ⟨_, rfl⟩
  rw [hn] at CN
  have HN := Lib.hid hn
  clear hb1 CA hn
  go_wp2_with fail
  refine CN.out.mono ?_
  rintro e w2 ⟨rfl, hg2, hb2, hz2⟩
  have CM := Lib.hid (new_anyIi 23 w2)
  rw [hz2] at CM
  have HG2 := Lib.hid hg2
  have HB2 := Lib.hid hb2
  have HZ2 := Lib.hid hz2
  clear hg2 hb2 hz2 CN
  go_wp2_with fail
  refine CM.out.mono ?_
  rintro e w3 ⟨rfl, hg3, hb3, hz3⟩
  have hb3' : Below w2.heap.size w2 w3 := by rw [HZ2.out]; exact hb3
  have HG3 := Lib.hid (HG2.out.below hb3')
  have HE3 := Lib.hid hg3
  have HB3 := Lib.hid (show Below n w1 w3 from HB2.out.trans (hb3.mono (by omega)))
  have CP := Lib.hid (put_nil HG3.out 1 2)
  clear hg3 hb3 hb3' hz3 CM HG2 HB2 HZ2
  go_wp2_with fail
  refine CP.out.mono ?_
  rintro e w4 ⟨rfl, hb4⟩
  have HG4 := Lib.hid (HG3.out.below hb4)
  have HE4 := Lib.hid (HE3.out.below hb4)
  have HB4 := Lib.hid (HB3.out.trans (hb4.mono (by have := HG3.out.hB; omega)))
  have CG := Lib.hid (get_empty HG4.out 1)
  clear hb4 CP HG3 HE3 HB3
  go_wp2_with fail
  refine CG.out.mono ?_
  rintro e w5 ⟨rfl, hb5⟩
  have HG5 := Lib.hid (HG4.out.below hb5)
  have HE5 := Lib.hid (HE4.out.below hb5)
  have HB5 := Lib.hid (HB4.out.trans (hb5.mono (by have := HG4.out.hB; omega)))
  have CT := Lib.hid (gtake_anyIi no_ord (n + 1) (n + 1 + 1) 5 .nil w5 HE5.out (by decide) (by constructor <;> decide) (fun q hq => by cases hq))
  rw [show valVIi (findT (fun a b : Int => a - b) 5 (.nil : GT Int Int)) = .int .i64 0 from rfl, show isV (findT (fun a b : Int => a - b) 5 (.nil : GT Int Int)) = false from rfl, show takeT (fun a b : Int => a - b) 5 (.nil : GT Int Int) = .nil from rfl] at CT
  clear hb5 CG HG4 HE4 HB4
  go_wp2_with fail
  refine CT.out.mono ?_
  rintro e w6 ⟨rfl, hg6, hc6⟩
  have HE6 := Lib.hid hg6
  have HG6 := Lib.hid (show GrIi .nilFunc (n + 1) w6 n .nil from by
    obtain ⟨a1, a2, p, a3, a4⟩ := HG5.out
    exact ⟨a1, by have := hc6.size; omega, p, by rw [hc6.block n (Array.getElem?_eq_some_iff.1 a3).1 (by omega)]; exact a3, a4⟩)
  have HB6 := Lib.hid (HB5.out.trans (hc6.below (B := n) (by omega) (by have := HG5.out.hB; omega)))
  have CL := Lib.hid (least_empty HE6.out)
  clear hg6 hc6 CT HG5 HE5 HB5
  go_wp2_with fail
  refine CL.out.mono ?_
  rintro e w7 ⟨rfl, hb7⟩
  have HG7 := Lib.hid (HG6.out.below hb7)
  have HE7 := Lib.hid (HE6.out.below hb7)
  have HB7 := Lib.hid (HB6.out.trans (hb7.mono (by have := HG6.out.hB; omega)))
  obtain ⟨w8, hw8⟩ : ∃ w8, w7.alloc (.cells #[.int .i64 0] 3) = w8 := ⟨_, rfl⟩
  have hb8 : Below w7.heap.size w7 w8 := hw8 ▸ (Below.refl _ _).alloc (Nat.le_refl _) _
  have hj8 : OneJ w8 w7.heap.size (.int .i64 0) w8 := ⟨by rw [← hw8]; simp, by rw [← hw8]; simp [go_sem], by rw [← hw8]; simp [go_sem], Chg.of_below (Below.refl _ _)⟩
  obtain ⟨a1, a2, p, a3, a4⟩ := HE7.out
  obtain rfl : p = none := a4
  have ha3 := (Array.getElem?_eq_some_iff.1 a3).1
  have k8 : w8.heap[n + 1]? = _ := (hb8.block (n + 1) ha3).trans a3
  have CW := Lib.hid (gwalk_anyIi (no_see w7.heap.size w8) no_ord (n + 1) (fun s W h => ⟨by have := h.chg.size; have := hb8.size; omega, by rw [h.chg.cell (by have := hb8.size; omega) (by omega)]; exact cell_at k8 0⟩) 0 (by constructor <;> decide) .nil none TrS.nil (fun q hq => by cases hq) 0 trivial w8 hj8 (by have := hb8.size; omega) (cell_at k8 1))
  have HG8 := Lib.hid (HG7.out.below hb8)
  have HE8 := Lib.hid (HE7.out.below hb8)
  have HB8 := Lib.hid (HB7.out.trans (hb8.mono (by have := HG7.out.hB; omega)))
  have HW8 := Lib.hid hw8
  have HM := Lib.hid (show n + 1 + 1 ≤ w7.heap.size from a2)
  clear hb7 hw8 hb8 hj8 a1 a2 a3 ha3 k8 CL HG6 HE6 HB6
  go_wp2_with fail
  rw [HW8.out]
  refine CW.out.mono ?_
  rintro e w9 ⟨rfl, hj9⟩
  have hj9 : OneJ w8 w7.heap.size (.int .i64 0) w9 := hj9
  have c9 := hj9.cell
  have hc9 := hj9.chg
  have HG9 := Lib.hid (show GrIi .nilFunc (n + 1) w9 n .nil from by
    obtain ⟨a1, a2, p, a3, a4⟩ := HG8.out
    exact ⟨a1, by have := hc9.size; omega, p, by rw [hc9.block n (Array.getElem?_eq_some_iff.1 a3).1 (by have := HM.out; omega)]; exact a3, a4⟩)
  have HE9 := Lib.hid (show GrIi _ (n + 1 + 1) w9 (n + 1) .nil from by
    obtain ⟨a1, a2, p, a3, a4⟩ := HE8.out
    exact ⟨a1, by have := hc9.size; omega, p, by rw [hc9.block (n + 1) (Array.getElem?_eq_some_iff.1 a3).1 (by have := HM.out; omega)]; exact a3, a4⟩)
  have HB9 := Lib.hid (HB8.out.trans (hc9.below (B := n) (by have := HM.out; omega) (by have := HG8.out.hB; omega)))
  have CA1 := Lib.hid (glen_anyIi HG9.out (by decide))
  have CA2 := Lib.hid (glen_anyIi HE9.out (by decide))
  have CA3 := Lib.hid (gdepth_anyIi HE9.out)
  clear hj9 hc9 CW HG8 HE8 HB8
  go_wp2_with fail
  refine CA1.out.mono ?_
  rintro e wz ⟨rfl, rfl⟩
  go_wp2_with fail
  refine CA2.out.mono ?_
  rintro e wz ⟨rfl, rfl⟩
  go_wp2_with fail
  refine CA3.out.mono ?_
  rintro e wz ⟨rfl, rfl⟩
  go_wp2_with fail
  go_ret
  exact ⟨rfl, HB1.out.trans (HB9.out.mono (by have := HB1.out.size; have := HN.out; omega))⟩
end Go.Proofs.Ytaghflionakhhaa
