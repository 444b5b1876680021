/-
  Layer grove: the laws' first step: three are put, two are walked.
-/
import Derived.Test.YtaghflionakhhaaGvGoIs
namespace Go.Proofs.Ytaghflionakhhaa
open Go.RowKit Go.Gz

/-- numbers that are far from the ends. -/
def smallK (a : Int) : Prop := -1000000 ≤ a ∧ a ≤ 1000000
theorem cmp_sub : Cmp (fun a b : Int => a - b) := ⟨fun a b => by omega, fun a b => by omega, fun a b d => by omega⟩

set_option maxRecDepth 100000 in
theorem aw_ord : OrdIs 36 (fun a b => a - b) smallK where
  eg := fun _ _ => rfl
  hF := fun a b w ha hb => by
    obtain ⟨h1, h2⟩ := ha
    obtain ⟨h3, h4⟩ := hb
    go_enter Try.func36, Try.ntmps36
    go_wp2_with fail
    go_ret
    exact ⟨rfl, rfl⟩

/-- what is kept while a function with one captured variable, in block m, is shown a tree. -/
structure OneJ (w0 : World) (m : Nat) (v : Value) (w : World) : Prop where
  lt : m < w.heap.size
  cell : w.cell? ⟨m, 0, none⟩ = some v
  fr : w.frozen? ⟨m, 0, none⟩ = false
  chg : Chg m w0 w
theorem OneJ.below {w0 : World} {m : Nat} {v : Value} {w w' : World} (h : OneJ w0 m v w) (hb : Below w.heap.size w w') : OneJ w0 m v w' :=
  ⟨by have := h.lt; have := hb.size; omega, by rw [hb.cell (p := ⟨m, 0, none⟩) h.lt]; exact h.cell, by rw [hb.frozen (p := ⟨m, 0, none⟩) h.lt]; exact h.fr, h.chg.trans (.of_below hb)⟩
theorem OneJ.set {w0 : World} {m : Nat} {v u : Value} {w : World} (h : OneJ w0 m v w) : OneJ w0 m u (w.setCell ⟨m, 0, none⟩ u) :=
  ⟨by have := h.lt; simpa [World.setCell] using this, by simp [go_sem, h.cell], by simpa [go_sem] using h.fr, h.chg.trans (Chg.set 0 u)⟩

def awF (s : ByteArray) (_ : Int) (v : ByteArray) : ByteArray × Bool := (s ++ v, true)

set_option maxRecDepth 100000 in
theorem aw_see (m : Nat) (w0 : World) : SeesIs awF 39 #[.pointer (some ⟨m, 0, none⟩)] (fun s p => s.size ≤ 100 ∧ p.2.size ≤ 100) (fun j => j ≠ m) w0 (fun s w => OneJ w0 m (.string s) w) where
  eg := fun _ _ => rfl
  hs := fun s k v w hj ha => by
    have c0 := hj.cell
    have f0 := hj.fr
    have HJ := Lib.hid hj
    have hadd := run_string_add_sum (P := Try.prog) (w := w) s v (by obtain ⟨h1, h2⟩ := ha; simp only at h2; omega)
    clear hj ha
    obtain ⟨sv, hsv⟩ : ∃ sv, s ++ v = sv := ⟨_, rfl⟩
    have HSV := Lib.hid hsv
    rw [hsv] at hadd
    clear hsv
    go_enter Try.func39, Try.ntmps39
    go_wp2_with fail
    go_ret
    refine ⟨rfl, ?_⟩
    rw [show (awF s k v).1 = sv from HSV.out]
    exact HJ.out.set
  hb := fun s w w' h hb => h.below hb
  hz := fun s w h => h.chg.size
  hk := fun s w h j hj hlt => h.chg.block j hlt hj

/-- what awake puts, one after another. -/
def aw1 : GT Int ByteArray := withT (fun a b => a - b) 3 ⟨#[99]⟩ .nil
def aw2 : GT Int ByteArray := withT (fun a b => a - b) 1 ⟨#[97]⟩ aw1
def aw3 : GT Int ByteArray := withT (fun a b => a - b) 2 ⟨#[98]⟩ aw2
theorem aw1_is : aw1 = .node 3 ⟨#[99]⟩ .nil .nil := rfl
theorem aw2_is : aw2 = .node 3 ⟨#[99]⟩ (.node 1 ⟨#[97]⟩ .nil .nil) .nil := by rfl
theorem aw3_is : aw3 = .node 2 ⟨#[98]⟩ (.node 1 ⟨#[97]⟩ .nil .nil) (.node 3 ⟨#[99]⟩ .nil .nil) := by rfl

set_option maxHeartbeats 1000000 in
set_option maxRecDepth 100000 in
theorem awake_true (w : World) : Calls Try.prog 7 #[] w fun e w' => e = .returned (.bool true) ∧ Below w.heap.size w w' := by
  have hmf : ∀ (fn : Fn) (first cap : Array Value) (w : World), (Instr.makeFunc fn first cap).run Try.prog w = .ok (.func fn first cap) w := fun _ _ _ _ => rfl
  have CN := Lib.hid (new_anyIs 36 w)
  go_enter Try.func7, Try.ntmps7
  go_wp2_with fail
  refine CN.out.mono ?_
  rintro e w1 ⟨rfl, hg1, hb1, hz1⟩
  obtain ⟨n, hn⟩ : ∃ n, w.heap.size = n := ⟨_, rfl⟩
  rw [hn] at hg1 hb1 hz1 ⊢
  have HN := Lib.hid hn
  have HB1 := Lib.hid hb1
  have C1 := Lib.hid (put_anyIs aw_ord n (n + 1) 3 ⟨#[99]⟩ .nil w1 hg1 (by decide) (by constructor <;> decide) (fun q hq => by cases hq))
  rw [show withT (fun a b : Int => a - b) 3 ⟨#[99]⟩ .nil = aw1 from rfl, show (decide (aw1.many = (GT.nil : GT Int ByteArray).many)) = false from rfl] at C1
  have HZ1 := Lib.hid hz1
  clear hb1 hz1 hg1 CN hn
  go_wp2_with fail
  refine C1.out.mono ?_
  rintro e w2 ⟨rfl, hg2, hc2⟩
  have C2 := Lib.hid (put_anyIs aw_ord n (n + 1) 1 ⟨#[97]⟩ aw1 w2 hg2 (by decide) (by constructor <;> decide) (fun q hq => by
    rw [aw1_is] at hq; simp [GT.list] at hq; subst hq; constructor <;> decide))
  rw [show withT (fun a b : Int => a - b) 1 ⟨#[97]⟩ aw1 = aw2 from rfl, show (decide (aw2.many = aw1.many)) = false from rfl] at C2
  have HC2 := Lib.hid hc2
  clear hg2 hc2 C1
  go_wp2_with fail
  refine C2.out.mono ?_
  rintro e w3 ⟨rfl, hg3, hc3⟩
  have C3 := Lib.hid (put_anyIs aw_ord n (n + 1) 2 ⟨#[98]⟩ aw2 w3 hg3 (by decide) (by constructor <;> decide) (fun q hq => by
    rw [aw2_is] at hq; simp [GT.list] at hq; rcases hq with rfl | rfl <;> constructor <;> decide))
  rw [show withT (fun a b : Int => a - b) 2 ⟨#[98]⟩ aw2 = aw3 from rfl, show (decide (aw3.many = aw2.many)) = false from rfl] at C3
  have HC3 := Lib.hid (HC2.out.trans hc3)
  clear hg3 hc3 C2 HC2
  go_wp2_with fail
  refine C3.out.mono ?_
  rintro e w4 ⟨rfl, hg4, hc4⟩
  have hc14 : Chg n w1 w4 := HC3.out.trans hc4
  have hz4 : n + 1 ≤ w4.heap.size := by have := hc14.size; have := HZ1.out; omega
  obtain ⟨w5, hw5⟩ : ∃ w5, w4.alloc (.cells #[.string ⟨#[]⟩] 9) = w5 := ⟨_, rfl⟩
  have hb5 : Below w4.heap.size w4 w5 := hw5 ▸ (Below.refl _ _).alloc (Nat.le_refl _) _
  obtain ⟨gB, hB, p, hblk, ht⟩ := hg4
  have hblk5 : w5.heap[n]? = some (.cells #[.func (.func 36) #[] #[], .pointer p] 96 (0, 0)) := by rw [hb5.block n (by omega)]; exact hblk
  have ht5 : TrIs (fun j => n + 1 ≤ j ∧ j ≠ w4.heap.size) w5 p aw3 := TrS.below (TrS.mono (fun j h0 h => ⟨h0, by omega⟩) ht) hb5
  have hj5 : OneJ w5 w4.heap.size (.string ⟨#[]⟩) w5 := ⟨by rw [← hw5]; simp, by rw [← hw5]; simp [go_sem], by rw [← hw5]; simp [go_sem], Chg.of_below (Below.refl _ _)⟩
  have HG := Lib.hid (show OrdIn 36 n (fun s w => OneJ w5 w4.heap.size (.string s) w) from fun s W h => ⟨by have := h.chg.size; have := hb5.size; omega, by rw [h.chg.cell (by have := hb5.size; omega) (by omega)]; exact cell_at hblk5 0⟩)
  have CW := Lib.hid (gwalk_anyIs (aw_see w4.heap.size w5) aw_ord n HG.out 2 (by constructor <;> decide) aw3 p (TrS.mono (fun j h _ => h.2) ht5) (fun q hq => by
    rw [aw3_is] at hq; simp [GT.list] at hq; rcases hq with rfl | rfl | rfl <;> constructor <;> decide) ⟨#[]⟩ (by
    rw [show fromT (fun a b : Int => a - b) 2 aw3 = [(2, ⟨#[98]⟩), (3, ⟨#[99]⟩)] by rfl]
    exact ⟨⟨by decide, by decide⟩, fun _ => ⟨⟨by decide, by decide⟩, fun _ => trivial⟩⟩) w5 hj5 (by have := hb5.size; omega) (cell_at hblk5 1))
  rw [show (runS awF ⟨#[]⟩ (fromT (fun a b : Int => a - b) 2 aw3)).1 = ⟨#[98, 99]⟩ by rfl] at CW
  have HB5 := Lib.hid hb5
  have HC4 := Lib.hid hc14
  have HK5 := Lib.hid hblk5
  have HT5 := Lib.hid ht5
  have HZ4 := Lib.hid hz4
  have HW5 := Lib.hid hw5
  clear hw5
  clear hc4 hc14 hz4 hb5 gB hB hblk hblk5 ht ht5 hj5 C3 HC3
  go_wp2_with fail
  rw [HW5.out]
  refine CW.out.mono ?_
  rintro e w6 ⟨rfl, hj6⟩
  have c6 := hj6.cell
  have hz6 := hj6.chg.size
  have hz5 := HB5.out.size
  have hg6 : GrIs (.func (.func 36) #[] #[]) (n + 1) w6 n aw3 :=
    ⟨by omega, by have := HZ4.out; omega, p, by rw [hj6.chg.block n (by have := HZ4.out; omega) (by have := HZ4.out; omega)]; exact HK5.out, TrS.mono (fun j h _ => h.1) (TrS.chg HT5.out hj6.chg (fun h => h.2 rfl))⟩
  have CL := Lib.hid (glen_anyIs hg6 (by decide))
  have CD := Lib.hid (gdepth_anyIs hg6)
  rw [show aw3.many = 3 from rfl] at CL
  rw [show aw3.deep = 2 from rfl] at CD
  have HE := Lib.hid (show Below n w1 w6 from ((HC4.out.below (Nat.le_refl n) (by have := HZ1.out; omega)).trans (HB5.out.mono (by have := HZ4.out; omega))).trans (hj6.chg.below (by have := HZ4.out; omega) (by have := HZ4.out; omega)))
  clear hj6 hz6 hz5 hg6 HB5 HC4 HK5 HT5 HZ4 CW
  go_wp2_with fail
  refine CL.out.mono ?_
  rintro e wz ⟨rfl, rfl⟩
  go_wp2_with fail
  refine CD.out.mono ?_
  rintro e wz ⟨rfl, rfl⟩
  go_wp2_with fail
  go_ret
  exact ⟨rfl, by rw [HN.out]; exact HB1.out.trans HE.out⟩
end Go.Proofs.Ytaghflionakhhaa
