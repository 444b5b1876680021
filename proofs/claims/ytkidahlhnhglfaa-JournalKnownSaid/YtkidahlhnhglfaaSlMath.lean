/-
  Layer seal, pure: the sum of bytes; frames, and what opens.
-/
import Derived.WalkKit
namespace Go.Proofs.Ytkidahlhnhglfaa

def nums (l : List UInt8) : List Int := l.map fun x => (x.toNat : Int)
@[simp] theorem nums_length (l : List UInt8) : (nums l).length = l.length := by simp [nums]
theorem nums_getD (l : List UInt8) (j : Nat) (h : j < l.length) : (nums l).getD j 0 = ((l.getD j 0).toNat : Int) := by simp [nums, List.getD, h]
theorem nums_append (a b : List UInt8) : nums (a ++ b) = nums a ++ nums b := by simp [nums]
theorem nums_cons (x : UInt8) (l : List UInt8) : nums (x :: l) = (x.toNat : Int) :: nums l := rfl
theorem nums_take (l : List UInt8) (k : Nat) : nums (l.take k) = (nums l).take k := by simp [nums, List.map_take]
theorem nums_drop (l : List UInt8) (k : Nat) : nums (l.drop k) = (nums l).drop k := by simp [nums, List.map_drop]
theorem nums_of (xs : List Int) (h : ∀ n ∈ xs, 0 ≤ n ∧ n ≤ 255) : ∃ l : List UInt8, xs = nums l := by
  induction xs with
  | nil => exact ⟨[], rfl⟩
  | cons x r ih =>
    obtain ⟨l, hl⟩ := ih fun n hn => h n (by simp [hn])
    have hx := h x (by simp)
    refine ⟨UInt8.ofNat x.toNat :: l, ?_⟩
    rw [nums_cons, hl]
    have : (UInt8.ofNat x.toNat).toNat = x.toNat := by simp; omega
    rw [this, Int.toNat_of_nonneg hx.1]

def stU (s : Nat × Nat) (x : UInt8) : Nat × Nat := (s.1 + x.toNat, s.2 + (s.1 + x.toNat))
def stR (s : Nat × Nat) (x : UInt8) : Nat × Nat := ((s.1 + x.toNat) % 65521, (s.2 + (s.1 + x.toNat) % 65521) % 65521)
def runU (s : Nat × Nat) (l : List UInt8) : Nat × Nat := l.foldl stU s
def runR (s : Nat × Nat) (l : List UInt8) : Nat × Nat := l.foldl stR s
def modP (s : Nat × Nat) : Nat × Nat := (s.1 % 65521, s.2 % 65521)

theorem mod_step (s : Nat × Nat) (x : UInt8) : modP (stU s x) = stR (modP s) x := by
  simp only [modP, stU, stR, Prod.mk.injEq]
  omega
theorem mod_run : ∀ (l : List UInt8) (s : Nat × Nat), modP (runU s l) = runR (modP s) l
  | [], _ => rfl
  | x :: l, s => by
    show modP (runU (stU s x) l) = runR (stR (modP s) x) l
    rw [mod_run l, mod_step]
theorem runR_append (s : Nat × Nat) (a b : List UInt8) : runR s (a ++ b) = runR (runR s a) b := by simp [runR]
theorem runU_snoc (s : Nat × Nat) (a : List UInt8) (x : UInt8) : runU s (a ++ [x]) = stU (runU s a) x := by simp [runU]
theorem runR_snoc (s : Nat × Nat) (a : List UInt8) (x : UInt8) : runR s (a ++ [x]) = stR (runR s a) x := by simp [runR]
theorem take_snoc8 (l : List UInt8) (k : Nat) (h : k < l.length) : l.take (k + 1) = l.take k ++ [l.getD k 0] := by
  rw [List.take_succ_eq_append_getElem h]; simp [List.getD, h]
theorem u8_lt (x : UInt8) : x.toNat ≤ 255 := by have := UInt8.toNat_lt x; omega
theorem runU_le : ∀ (l : List UInt8) (n : Nat) (s : Nat × Nat), n + l.length ≤ 65536 → s.1 ≤ 65520 + 255 * n → s.2 ≤ 65520 + n * 16777216 →
    (runU s l).1 ≤ 65520 + 255 * (n + l.length) ∧ (runU s l).2 ≤ 65520 + (n + l.length) * 16777216
  | [], n, s, _, h1, h2 => ⟨by simpa [runU] using h1, by simpa [runU] using h2⟩
  | x :: l, n, s, h0, h1, h2 => by
    have hx := u8_lt x
    simp only [List.length_cons] at h0 ⊢
    have := runU_le l (n + 1) (stU s x) (by omega) (by simp only [stU]; omega) (by simp only [stU]; omega)
    rw [show n + (l.length + 1) = n + 1 + l.length by omega]
    exact this
theorem runR_lt : ∀ (l : List UInt8) (s : Nat × Nat), s.1 < 65521 → s.2 < 65521 → (runR s l).1 < 65521 ∧ (runR s l).2 < 65521
  | [], _, h1, h2 => ⟨h1, h2⟩
  | x :: l, s, _, _ => runR_lt l (stR s x) (Nat.mod_lt _ (by decide)) (Nat.mod_lt _ (by decide))

def sumB : List UInt8 → Nat
  | [] => 0
  | x :: l => x.toNat + sumB l
theorem sumB_append (a b : List UInt8) : sumB (a ++ b) = sumB a + sumB b := by
  induction a with
  | nil => simp [sumB]
  | cons x r ih => simp [sumB, ih]; omega
theorem runR_fst : ∀ (l : List UInt8) (s : Nat × Nat), s.1 < 65521 → (runR s l).1 = (s.1 + sumB l) % 65521
  | [], s, h => by simp [runR, sumB, Nat.mod_eq_of_lt h]
  | x :: l, s, _ => by
    have := runR_fst l (stR s x) (Nat.mod_lt _ (by decide))
    show (runR (stR s x) l).1 = _
    rw [this]
    simp only [stR, sumB]
    omega

/-- P8.1. -/
def sumL (l : List UInt8) : Nat := (runR (1, 0) l).2 * 65536 + (runR (1, 0) l).1
theorem sumL_lt (l : List UInt8) : sumL l < 4294967296 := by
  have := runR_lt l (1, 0) (by decide) (by decide)
  unfold sumL; omega
theorem sumL_mod (l : List UInt8) : sumL l % 65536 = (1 + sumB l) % 65521 := by
  have h1 := runR_lt l (1, 0) (by decide) (by decide)
  have h2 := runR_fst l (1, 0) (by decide)
  simp only at h2
  unfold sumL
  rw [← h2]; omega
theorem sumL_ne {a b : List UInt8} (h1 : sumB a < sumB b) (h2 : sumB b - sumB a < 65521) : sumL a ≠ sumL b := by
  intro h
  have ha := sumL_mod a
  have hb := sumL_mod b
  rw [h, hb] at ha
  omega

def be2 (n : Nat) : List UInt8 := [UInt8.ofNat (n / 256), UInt8.ofNat n]
def be4 (n : Nat) : List UInt8 := [UInt8.ofNat (n / 16777216), UInt8.ofNat (n / 65536), UInt8.ofNat (n / 256), UInt8.ofNat n]
def numL (l : List UInt8) : Nat := l.foldl (fun n x => n * 256 + x.toNat) 0
theorem of8 (n : Nat) : (UInt8.ofNat n).toNat = n % 256 := by simp
theorem numL_be2 (n : Nat) (h : n < 65536) : numL (be2 n) = n := by simp only [numL, be2, List.foldl, of8]; omega
theorem numL_be4 (n : Nat) (h : n < 4294967296) : numL (be4 n) = n := by simp only [numL, be4, List.foldl, of8]; omega
theorem numL_snoc (a : List UInt8) (x : UInt8) : numL (a ++ [x]) = numL a * 256 + x.toNat := by simp [numL]
theorem numL_two (x y : UInt8) : numL [x, y] = x.toNat * 256 + y.toNat := by simp [numL]
theorem numL_lt : ∀ (l : List UInt8), l.length ≤ 4 → numL l < 4294967296
  | [], _ => by decide
  | [a], _ => by have := u8_lt a; simp only [numL, List.foldl]; omega
  | [a, b], _ => by have := u8_lt a; have := u8_lt b; simp only [numL, List.foldl]; omega
  | [a, b, c], _ => by have := u8_lt a; have := u8_lt b; have := u8_lt c; simp only [numL, List.foldl]; omega
  | [a, b, c, d], _ => by have := u8_lt a; have := u8_lt b; have := u8_lt c; have := u8_lt d; simp only [numL, List.foldl]; omega
  | _ :: _ :: _ :: _ :: _ :: _, h => by simp at h

/-- P8.2. -/
def headL (kind : UInt8) (l : List UInt8) : List UInt8 := be2 l.length ++ [kind]
def frameL (kind : UInt8) (l : List UInt8) : List UInt8 := headL kind l ++ be4 (sumL (headL kind l ++ l)) ++ l
theorem frameL_length (kind : UInt8) (l : List UInt8) : (frameL kind l).length = 7 + l.length := by simp [frameL, headL, be2, be4]; omega

def manyL (b : List UInt8) : Nat := numL (b.take 2)
def dataL (b : List UInt8) : List UInt8 := (b.drop 7).take (manyL b)
def kindL (b : List UInt8) : UInt8 := b.getD 2 0
def errL (b : List UInt8) : Nat :=
  if b.length < 7 then 7 else if 32768 < manyL b then 3 else if b.length < 7 + manyL b then 7
  else if sumL (b.take 3 ++ dataL b) = numL ((b.drop 3).take 4) then 0 else 6

theorem many_frame (kind : UInt8) (l r : List UInt8) (h : l.length ≤ 32768) : manyL (frameL kind l ++ r) = l.length := by
  show numL (be2 l.length) = _
  exact numL_be2 _ (by omega)
theorem data_frame (kind : UInt8) (l r : List UInt8) (h : l.length ≤ 32768) : dataL (frameL kind l ++ r) = l := by
  unfold dataL
  rw [many_frame kind l r h]
  show (l ++ r).take l.length = l
  simp
theorem kind_frame (kind : UInt8) (l r : List UInt8) : kindL (frameL kind l ++ r) = kind := rfl
theorem err_frame (kind : UInt8) (l r : List UInt8) (h : l.length ≤ 32768) : errL (frameL kind l ++ r) = 0 := by
  have e : (frameL kind l ++ r).length = 7 + l.length + r.length := by rw [List.length_append, frameL_length]
  unfold errL
  rw [many_frame kind l r h, data_frame kind l r h, if_neg (by omega), if_neg (by omega), if_neg (by omega), if_pos]
  show sumL (headL kind l ++ l) = numL (be4 (sumL (headL kind l ++ l)))
  rw [numL_be4 _ (sumL_lt _)]
theorem err_cut (kind : UInt8) (l : List UInt8) (h : l.length ≤ 32768) (k : Nat) (hk : k < 7 + l.length) : errL ((frameL kind l).take k) = 7 := by
  have e : ((frameL kind l).take k).length = k := by rw [List.length_take, frameL_length]; omega
  unfold errL
  rw [e]
  by_cases h7 : k < 7
  · rw [if_pos h7]
  · have hm : manyL ((frameL kind l).take k) = l.length := by
      have := many_frame kind l [] h
      rw [List.append_nil] at this
      rw [← this]
      unfold manyL
      rw [List.take_take, Nat.min_eq_left (by omega)]
    rw [hm, if_neg h7, if_neg (by omega), if_pos hk]

/-- what All answers: the data of all frames, kinds ahead, and how many bytes they have. -/
inductive AllIs : List UInt8 → List (List UInt8) → Nat → Prop
  | stop {b : List UInt8} : errL b ≠ 0 → AllIs b [] 0
  | step {b : List UInt8} {r : List (List UInt8)} {n : Nat} : errL b = 0 → AllIs (b.drop (7 + manyL b)) r n → AllIs b ((kindL b :: dataL b) :: r) (7 + manyL b + n)
theorem errL_room {b : List UInt8} (h : errL b = 0) : 7 + manyL b ≤ b.length ∧ manyL b ≤ 32768 := by
  unfold errL at h
  split at h
  · cases h
  · split at h
    · cases h
    · split at h
      · cases h
      · omega
theorem all_le {b : List UInt8} {r : List (List UInt8)} {n : Nat} (h : AllIs b r n) : n ≤ b.length := by
  induction h with
  | stop _ => exact Nat.zero_le _
  | step he _ ih => have := errL_room he; rw [List.length_drop] at ih; omega
theorem all_frame {kind : UInt8} {l r : List UInt8} {rs : List (List UInt8)} {n : Nat} (h : l.length ≤ 32768) (hr : AllIs r rs n) : AllIs (frameL kind l ++ r) ((kind :: l) :: rs) (7 + l.length + n) := by
  have h1 := many_frame kind l r h
  have h2 := data_frame kind l r h
  have h3 := kind_frame kind l r
  have h4 := AllIs.step (b := frameL kind l ++ r) (r := rs) (n := n) (err_frame kind l r h) (by
    rw [h1, ← frameL_length kind l, List.drop_left]; exact hr)
  rwa [h1, h2, h3] at h4
theorem all_nil : AllIs [] [] 0 := .stop (by decide)

/-- a frame of which a byte of the data is turned. -/
theorem err_set_data (kind : UInt8) (l r : List UInt8) (h : l.length ≤ 32768) (j : Nat) (hj : j < l.length) (y : UInt8) (hy : y ≠ l.getD j 0) : errL ((frameL kind l ++ r).set (7 + j) y) = 6 := by
  have e : (frameL kind l ++ r).set (7 + j) y = (headL kind l ++ be4 (sumL (headL kind l ++ l))) ++ (l.set j y ++ r) := by
    show (((headL kind l ++ be4 (sumL (headL kind l ++ l))) ++ l) ++ r).set (7 + j) y = _
    rw [List.append_assoc, List.set_append, if_neg (by simp [headL, be2, be4])]
    have : 7 + j - (headL kind l ++ be4 (sumL (headL kind l ++ l))).length = j := by simp [headL, be2, be4]
    rw [this, List.set_append, if_pos hj]
  have hm : manyL ((headL kind l ++ be4 (sumL (headL kind l ++ l))) ++ (l.set j y ++ r)) = l.length := numL_be2 _ (by omega)
  have hd : dataL ((headL kind l ++ be4 (sumL (headL kind l ++ l))) ++ (l.set j y ++ r)) = l.set j y := by
    unfold dataL
    rw [hm]
    show (l.set j y ++ r).take l.length = _
    rw [List.take_append_of_le_length (by simp), List.take_of_length_le (by simp)]
  rw [e]
  unfold errL
  rw [hm, hd, if_neg (by simp [headL, be2, be4]), if_neg (by omega), if_neg (by simp [headL, be2, be4]; omega), if_neg]
  show ¬ sumL (headL kind l ++ l.set j y) = numL (be4 (sumL (headL kind l ++ l)))
  rw [numL_be4 _ (sumL_lt _)]
  have h1 : sumB l + y.toNat = sumB (l.set j y) + (l.getD j 0).toNat := by
    clear hd hm e hy h
    induction l generalizing j with
    | nil => simp at hj
    | cons x q ih =>
      cases j with
      | zero => simp [sumB]; omega
      | succ j => have := ih j (by simpa using hj); simp only [List.set_cons_succ, sumB, List.getD_cons_succ]; omega
  have hy' : y.toNat ≠ (l.getD j 0).toNat := fun h => hy (UInt8.toNat_inj.1 h)
  have b1 := u8_lt y
  have b2 := u8_lt (l.getD j 0)
  have s1 := sumB_append (headL kind l) (l.set j y)
  have s2 := sumB_append (headL kind l) l
  rcases Nat.lt_or_gt_of_ne hy' with hh | hh
  · exact sumL_ne (by omega) (by omega)
  · exact fun h => sumL_ne (a := headL kind l ++ l) (b := headL kind l ++ l.set j y) (by omega) (by omega) h.symm
/-- a frame of which the kind is turned. -/
theorem err_set_kind (kind : UInt8) (l r : List UInt8) (h : l.length ≤ 32768) (y : UInt8) (hy : y ≠ kind) : errL ((frameL kind l ++ r).set 2 y) = 6 := by
  have e : (frameL kind l ++ r).set 2 y = (headL y l ++ be4 (sumL (headL kind l ++ l))) ++ (l ++ r) := by
    show (((headL kind l ++ be4 (sumL (headL kind l ++ l))) ++ l) ++ r).set 2 y = _
    simp [headL, be2, be4]
  have hm : manyL ((headL y l ++ be4 (sumL (headL kind l ++ l))) ++ (l ++ r)) = l.length := numL_be2 _ (by omega)
  have hd : dataL ((headL y l ++ be4 (sumL (headL kind l ++ l))) ++ (l ++ r)) = l := by
    unfold dataL
    rw [hm]
    show (l ++ r).take l.length = _
    simp
  rw [e]
  unfold errL
  rw [hm, hd, if_neg (by simp [headL, be2, be4]), if_neg (by omega), if_neg (by simp [headL, be2, be4]; omega), if_neg]
  show ¬ sumL (headL y l ++ l) = numL (be4 (sumL (headL kind l ++ l)))
  rw [numL_be4 _ (sumL_lt _)]
  have hy' : y.toNat ≠ kind.toNat := fun h => hy (UInt8.toNat_inj.1 h)
  have b1 := u8_lt y
  have b2 := u8_lt kind
  have s1 := sumB_append (headL y l) l
  have s2 := sumB_append (headL kind l) l
  have t1 : sumB (headL y l) = sumB (be2 l.length) + y.toNat := by unfold headL; rw [sumB_append]; simp [sumB]
  have t2 : sumB (headL kind l) = sumB (be2 l.length) + kind.toNat := by unfold headL; rw [sumB_append]; simp [sumB]
  rcases Nat.lt_or_gt_of_ne hy' with hh | hh
  · exact sumL_ne (by omega) (by omega)
  · exact fun h => sumL_ne (a := headL kind l ++ l) (b := headL y l ++ l) (by omega) (by omega) h.symm
end Go.Proofs.Ytkidahlhnhglfaa
