/-
  Layer lore: the document's example holds; which arguments a law asks upon.
-/
import Derived.Test.YtaoaicmagccfmaaLoNorm2
namespace Go.Proofs.Ytaoaicmagccfmaa
open Go.RowKit Go.Gz Go.Sort

def flatL (ls : List LR) : List Value := ls.flatMap fun x => [.int .i32 x.r, .int .i64 x.c, .slice x.p x.to.length x.cap]
theorem flatL_get : ∀ (ls : List LR) (j : Nat), j < ls.length → (flatL ls)[j * 3]? = some (.int .i32 ls[j]!.r) ∧ (flatL ls)[j * 3 + 1]? = some (.int .i64 ls[j]!.c) ∧ (flatL ls)[j * 3 + 2]? = some (.slice ls[j]!.p ls[j]!.to.length ls[j]!.cap)
  | [], _, h => by simp at h
  | x :: t, 0, _ => ⟨rfl, rfl, rfl⟩
  | x :: t, j + 1, h => by
    have ih := flatL_get t j (by simpa using h)
    have e : flatL (x :: t) = [.int .i32 x.r, .int .i64 x.c, .slice x.p x.to.length x.cap] ++ flatL t := by simp [flatL]
    have g : (x :: t)[j + 1]! = t[j]! := by simp
    rw [e, g, show (j + 1) * 3 = 3 + j * 3 by omega]
    refine ⟨?_, ?_, ?_⟩
    · rw [List.getElem?_append_right (by simp)]; simpa using ih.1
    · rw [List.getElem?_append_right (by simp; omega)]; rw [show 3 + j * 3 + 1 - [Value.int .i32 x.r, .int .i64 x.c, .slice x.p x.to.length x.cap].length = j * 3 + 1 by simp; omega]; exact ih.2.1
    · rw [List.getElem?_append_right (by simp; omega)]; rw [show 3 + j * 3 + 2 - [Value.int .i32 x.r, .int .i64 x.c, .slice x.p x.to.length x.cap].length = j * 3 + 2 by simp; omega]; exact ih.2.2
theorem lores_lit (w : World) (b : Nat) (t : TypeId) (fr : Nat × Nat) (ls : List LR) (h : w.heap[b]? = some (.cells (flatL ls).toArray t fr)) (hto : ∀ x ∈ ls, ToAt w x) : Lores w (some ⟨b, 0, none⟩) ls := by
  refine Or.inr ⟨b, 0, rfl, (Array.getElem?_eq_some_iff.1 h).1, fun j hj => ?_⟩
  obtain ⟨h1, h2, h3⟩ := flatL_get ls j hj
  simp only [World.cell?, h, Nat.zero_add, List.getElem?_toArray]
  exact ⟨h1, h2, h3, hto _ (get_mem hj)⟩
theorem heap_new (w : World) (o : Obj) : (w.alloc o).heap[w.heap.size]? = some o := by
  show (w.heap.push _)[w.heap.size]? = _
  simp

/-- the lore of the example: é, and the accent's class. -/
def exL (h : Nat) : List LR := [⟨233, 0, some ⟨h, 0, none⟩, [101, 769], 2⟩, ⟨769, 230, none, [], 0⟩]
theorem ex_may (h : Nat) : mayB (exL h) = true := by kernel_rfl
theorem ex_norm (h : Nat) : normalL (exL h) [233] = [101, 769] := by kernel_rfl
theorem ex_c1 (h : Nat) : clsL (exL h) 769 = 230 := by kernel_rfl
theorem ex_c2 (h : Nat) : clsL (exL h) 101 = 0 := by kernel_rfl

theorem build_lore (a b : Int) (p : Option Addr) (n k : Nat) (w : World) : (Instr.build 33 #[(0, .int .i32 a), (1, .int .i64 b), (2, .slice p n k)]).run Try.prog w = .ok (.agg #[.int .i32 a, .int .i64 b, .slice p n k]) w := by kernel_rfl
theorem build_lore02 (a : Int) (p : Option Addr) (n k : Nat) (w : World) : (Instr.build 33 #[(0, .int .i32 a), (2, .slice p n k)]).run Try.prog w = .ok (.agg #[.int .i32 a, .int .i64 0, .slice p n k]) w := by kernel_rfl
theorem build_lore01 (a b : Int) (w : World) : (Instr.build 33 #[(0, .int .i32 a), (1, .int .i64 b)]).run Try.prog w = .ok (.agg #[.int .i32 a, .int .i64 b, .slice none 0 0]) w := by kernel_rfl
theorem build_lore0 (a : Int) (w : World) : (Instr.build 33 #[(0, .int .i32 a)]).run Try.prog w = .ok (.agg #[.int .i32 a, .int .i64 0, .slice none 0 0]) w := by kernel_rfl

set_option maxHeartbeats 1000000 in
theorem awake_true (W : World) : Calls Try.prog 7 #[] W fun e w' => e = .returned (.bool true) ∧ Below W.heap.size W w' := by
  have b1 := fun w : World => build_lore02 233 (some ⟨W.heap.size, 0, none⟩) 2 2 w
  have b2 := fun w : World => build_lore01 769 230 w
  go_enter Try.func7, Try.ntmps7
  obtain ⟨w2, hw2⟩ : ∃ w2, w2 = (W.alloc (.cells ([101, 769].map (Value.int .i32)).toArray 21)).alloc (.cells (flatL (exL W.heap.size)).toArray 33) := ⟨_, rfl⟩
  have hl2 : Lores w2 (some ⟨W.heap.size + 1, 0, none⟩) (exL W.heap.size) := by
    refine lores_lit w2 _ 33 (0, 0) _ ?_ fun x hx => ?_
    · rw [hw2]
      have := heap_new (W.alloc (.cells ([101, 769].map (Value.int .i32)).toArray 21)) (.cells (flatL (exL W.heap.size)).toArray 33)
      rwa [World.size_alloc] at this
    · simp only [exL, List.mem_cons, List.not_mem_nil, or_false] at hx
      rcases hx with rfl | rfl
      · rw [hw2]
        exact ⟨(row_lit W .i32 21 [101, 769]).below ((Below.refl _ _).alloc (Nat.le_refl _) _), Nat.le_refl 2, fun h => by cases h⟩
      · exact ⟨Or.inl rfl, Nat.le_refl _, fun _ => rfl⟩
  have hb2 := Lib.hid (show Below W.heap.size W w2 by rw [hw2]; exact ((Below.refl _ _).alloc (Nat.le_refl _) _).alloc (by simp) _)
  have hs2 : w2.heap.size = W.heap.size + 1 + 1 := by rw [hw2]; simp
  obtain ⟨w3, hw3⟩ : ∃ w3, w3 = w2.alloc (.cells ([233].map (Value.int .i32)).toArray 21) := ⟨_, rfl⟩
  have hb23 := Lib.hid (show Below w2.heap.size w2 w3 by rw [hw3]; exact (Below.refl _ _).alloc (Nat.le_refl _) _)
  have hr3 : Row w3 .i32 (some ⟨W.heap.size + 1 + 1, 0, none⟩) [233] := by rw [hw3, ← hs2]; exact row_lit _ _ _ _
  have HL := Lib.hid (hl2.below hb23.out)
  have C1 := normal_ok (exL W.heap.size) (ex_may _) (some ⟨W.heap.size + 1, 0, none⟩) 2 [233] (by kernel_rfl) (some ⟨W.heap.size + 1 + 1, 0, none⟩) 1 w3 HL.out hr3 (by show 2 < 1000000; omega) (by decide)
  rw [ex_norm] at C1
  have hc1 : Calls Try.prog 9 #[.slice (some ⟨W.heap.size + 1, 0, none⟩) 2 2, .slice (some ⟨W.heap.size + 1 + 1, 0, none⟩) 1 1] ((((W.alloc (.cells #[.int .i32 101, .int .i32 769] 21)).alloc (.cells #[.int .i32 233, .int .i64 0, .slice (some ⟨W.heap.size, 0, none⟩) 2 2, .int .i32 769, .int .i64 230, .slice none 0 0] 33)).alloc (.cells #[.int .i32 233] 21))) (RetNorm w3 [101, 769]) := by
    rw [hw3, hw2] at C1 ⊢
    exact C1
  have HC1 := Lib.hid hc1
  have HB3 := Lib.hid (hb2.out.trans (hb23.out.mono (by omega)))
  have hs3 : W.heap.size + 1 + 1 < w3.heap.size := by rw [hw3]; simp [hs2]
  have HM := Lib.hid (fun w hb => by have := may_any (exL W.heap.size) (some ⟨W.heap.size + 1, 0, none⟩) 2 w (HL.out.below hb) (by show 2 < 1000000; omega); rw [ex_may] at this; exact this)
  have HK1 := Lib.hid (fun w hb => by have := class_any (exL W.heap.size) (may_rising (ex_may _)) (some ⟨W.heap.size + 1, 0, none⟩) 2 769 w (HL.out.below hb) (by show 2 < 1000000; omega); rw [ex_c1] at this; exact this)
  have HK2 := Lib.hid (fun w hb => by have := class_any (exL W.heap.size) (may_rising (ex_may _)) (some ⟨W.heap.size + 1, 0, none⟩) 2 101 w (HL.out.below hb) (by show 2 < 1000000; omega); rw [ex_c2] at this; exact this)
  clear C1 hc1 hr3 hl2 hb2 hb23 hs2 hw3 hw2
  go_wp2_with fail
  refine HC1.out.mono ?_
  rintro e w4 ⟨v, rfl, hb4, hown⟩
  obtain ⟨q, c, rfl, _, hrow⟩ := Own.row hown
  have hs4 := hb4.size
  have HB4 := Lib.hid hb4
  have C5 := Lib.hid (same_yes [101, 769] q (some ⟨w4.heap.size, 0, none⟩) c 2 (w4.alloc (.cells #[.int .i32 101, .int .i32 769] 21)) (by decide) (hrow.below ((Below.refl _ _).alloc (Nat.le_refl _) _)) (row_lit w4 .i32 21 [101, 769]))
  clear hb4 hown hrow HC1
  go_wp2_with fail
  refine C5.out.mono ?_
  rintro e w5 ⟨rfl, hb5⟩
  have HB5 := Lib.hid (HB4.out.trans ((((Below.refl w4.heap.size w4).alloc (Nat.le_refl _) _).trans (hb5.mono (by simp))).mono hs4))
  clear hb5 C5
  go_wp2_with fail
  refine (HM.out w5 HB5.out).mono ?_
  rintro e w6 ⟨rfl, hb6⟩
  have HB6 := Lib.hid (HB5.out.trans (hb6.mono HB5.out.size))
  clear hb6
  go_wp2_with fail
  refine (HK1.out w6 HB6.out).mono ?_
  rintro e w7 ⟨rfl, hb7⟩
  have HB7 := Lib.hid (HB6.out.trans (hb7.mono HB6.out.size))
  clear hb7
  go_wp2_with fail
  refine (HK2.out w7 HB7.out).mono ?_
  rintro e w8 ⟨rfl, hb8⟩
  have HB8 := Lib.hid (HB7.out.trans (hb8.mono HB7.out.size))
  clear hb8
  go_wp2_with fail
  go_ret
  exact ⟨rfl, HB3.out.trans (HB8.out.mono (by omega))⟩

def FewPost (ls : List LR) (s : List Int) (W : World) (e : Ending) (w' : World) : Prop := ∃ bv : Bool, e = .returned (.bool bv) ∧ (bv = true → ls.length ≤ 100 ∧ s.length ≤ 300) ∧ w' = W
/-- few: what is asked upon is not long. -/
theorem few_any (ls : List LR) (p : Option Addr) (cap : Nat) (s : List Int) (q : Option Addr) (c : Nat) (W : World) (hl : Lores W p ls) (hsz : ls.length ≤ 9223372036854775807) (hxs : ∀ x ∈ ls, x.to.length ≤ 9223372036854775807) (hz : s.length ≤ 9223372036854775807) :
    Calls Try.prog 8 #[.slice p ls.length cap, .slice q s.length c] W (FewPost ls s W) := by
  have HL := Lib.hid hl; clear hl
  have HX := Lib.hid hxs; clear hxs
  go_enter Try.func8, Try.ntmps8
  go_wp2_with fail
  go_loop [5, 6] (fun n i => ∃ (k : Nat) (z : Int), n = .int .i64 z ∧ i = .int .i64 k ∧ k ≤ ls.length) (fun _ i => ls.length - (intOf i).toNat)
  case atStart => exact ⟨0, 0, rfl, rfl, Nat.zero_le _⟩
  case round =>
    obtain ⟨k, z, rfl, rfl, hk⟩ := hrel
    by_cases hlt : k < ls.length
    · have hltz : (k : Int) < (ls.length : Int) := by omega
      obtain ⟨b, off, rfl, hbW, c1, c2, c3, _⟩ := HL.out.at_ (Below.refl _ _) hlt
      have hlen := HX.out _ (get_mem hlt)
      generalize ls[k]! = x at c1 c2 c3 hlen
      go_wp2_with fail
      go_round
      case rel => exact ⟨k + 1, _, rfl, by go_num, by omega⟩
      case measure => simp [intOf]; omega
    · obtain rfl : k = ls.length := by omega
      by_cases h1 : ls.length ≤ 100
      · have h1z : (ls.length : Int) ≤ 100 := by omega
        by_cases h2 : z ≤ 500
        · by_cases h3 : s.length ≤ 300
          · have h3z : (s.length : Int) ≤ 300 := by omega
            go_wp2_with fail
            go_ret
            exact ⟨true, rfl, fun _ => ⟨by omega, by omega⟩, rfl⟩
          · have h3z : decide ((s.length : Int) ≤ 300) = false := decide_eq_false (by omega)
            go_wp2_with fail
            go_ret
            exact ⟨false, rfl, (fun h => by cases h), rfl⟩
        · have h2z : decide (z ≤ 500) = false := decide_eq_false h2
          go_wp2_with fail
          go_ret
          exact ⟨false, rfl, (fun h => by cases h), rfl⟩
      · have h1z : decide ((ls.length : Int) ≤ 100) = false := decide_eq_false (by omega)
        go_wp2_with fail
        go_ret
        exact ⟨false, rfl, (fun h => by cases h), rfl⟩
end Go.Proofs.Ytaoaicmagccfmaa
