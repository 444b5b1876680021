/-
  Layer journal: the law's own deeds.
-/
import Derived.Test.YtkidahlhnhglfaaJnRead
import Derived.Test.YtkidahlhnhglfaaJnAdd
namespace Go.Proofs.Ytkidahlhnhglfaa
open Go.RowKit

def askO : AskL := ⟨0, 0, 0, [], [], [], [], 0⟩
def zero32 : List UInt8 := [0, 0, 0, 0, 0, 0, 0, 0, 0, 0, 0, 0, 0, 0, 0, 0, 0, 0, 0, 0, 0, 0, 0, 0, 0, 0, 0, 0, 0, 0, 0, 0]
def deedA : DeedL := ⟨3, askO, 0, [], [], 9, []⟩
def deed1 : DeedL := ⟨1, askO, 0, [97], [98], 0, [([120], [121])]⟩
def deed2 : DeedL := ⟨2, askO, 0, [], [], 0, []⟩
def deedM : DeedL := ⟨-1, askO, 0, [], [], 0, []⟩
def deedE : DeedL := ⟨0, askO, 0, [], [], 268435456, []⟩
def deedS : DeedL := ⟨0, ⟨0, 0, -1, [], [], [], [], 0⟩, 0, [], [], 0, []⟩
def deedF (f : List UInt8) : DeedL := ⟨0, askO, 0, f, [], 0, []⟩
def yA : List UInt8 := [0, 0, 0, 3, 0, 0, 0, 0, 0, 0, 0, 9, 0, 0, 0, 0, 0, 0, 0, 0, 0, 0, 0, 32, 0, 0, 0, 0, 0, 0, 0, 0, 0, 0, 0, 0, 0, 0, 0, 0, 0, 0, 0, 0, 0, 0, 0, 0, 0, 0, 0, 0, 0, 0, 0, 0, 0, 0, 0, 4, 0, 0, 0, 0]
def y1 : List UInt8 := [0, 0, 0, 1, 0, 0, 0, 0, 0, 0, 0, 0, 0, 0, 0, 1, 97, 0, 0, 0, 1, 98, 0, 0, 0, 32, 0, 0, 0, 0, 0, 0, 0, 0, 0, 0, 0, 0, 0, 0, 0, 0, 0, 0, 0, 0, 0, 0, 0, 0, 0, 0, 0, 0, 0, 0, 0, 0, 0, 0, 0, 18, 0, 0, 0, 1, 0, 0, 0, 10, 0, 0, 0, 1, 120, 0, 0, 0, 1, 121]
def y2 : List UInt8 := [0, 0, 0, 2, 0, 0, 0, 0, 0, 0, 0, 0, 0, 0, 0, 0, 0, 0, 0, 0, 0, 0, 0, 32, 0, 0, 0, 0, 0, 0, 0, 0, 0, 0, 0, 0, 0, 0, 0, 0, 0, 0, 0, 0, 0, 0, 0, 0, 0, 0, 0, 0, 0, 0, 0, 0, 0, 0, 0, 4, 0, 0, 0, 0]
theorem pack_A : packS deedA = some yA := by decide +kernel
theorem pack_1 : packS deed1 = some y1 := by decide +kernel
theorem pack_2 : packS deed2 = some y2 := by decide +kernel
theorem pack_M : packS deedM = none := by decide +kernel
theorem pack_E : packS deedE = none := by decide +kernel
theorem pack_S : packS deedS = none := by decide +kernel
theorem ask_O : askS askO = some zero32 := by decide +kernel
theorem nums_O : numsS 9223372036854775807 (some []) [0, 0, 0] = some [0, 0, 0, 0, 0, 0, 0, 0, 0, 0, 0, 0] := by decide +kernel
theorem recs_O : recsL [] = [0, 0, 0, 0] := by decide +kernel
theorem pack_F (f : List UInt8) (h : f.length = 32768) : ∃ Y, packS (deedF f) = some Y ∧ Y.length = 32832 := by
  have hp : packS (deedF f) = textsS 9223372036854775807 (some [0, 0, 0, 0, 0, 0, 0, 0, 0, 0, 0, 0]) [f, [], zero32, [0, 0, 0, 0]] := by
    unfold packS deedF
    simp only [ask_O, packA, nums_O, recs_O]
  have hz : zero32.length = 32 := by decide
  have hr := texts_room 9223372036854775807 [f, [], zero32, [0, 0, 0, 0]] [0, 0, 0, 0, 0, 0, 0, 0, 0, 0, 0, 0] (by
    intro x hx
    simp only [List.mem_cons, List.not_mem_nil, or_false] at hx
    rcases hx with rfl | rfl | rfl | rfl
    · omega
    · decide
    · decide
    · decide) (by
    show 12 + (4 + f.length + (4 + 0 + (4 + zero32.length + (4 + 4 + 0)))) ≤ _
    omega)
  refine ⟨_, hp.trans hr, ?_⟩
  have e : sumL3 [f, [], zero32, [0, 0, 0, 0]] = f.length + (0 + (zero32.length + (4 + 0))) := rfl
  rw [List.length_append, encR_len, e, h, hz]
  simp only [List.length_cons, List.length_nil]
theorem fits_A : Fits deedA yA := fun p cap w hp hc =>
  read_ok 3 0 9 [] [] zero32 [0, 0, 0, 0] [] (0, 0, 0, 0, [], [], [], []) yA (by kernel_rfl) (by decide +kernel) (by decide) (by kernel_rfl) recs_O.symm (by decide) (by decide) _ rfl (by decide) p cap w hp hc
theorem fits_1 : Fits deed1 y1 := fun p cap w hp hc =>
  read_ok 1 0 0 [97] [98] zero32 [0, 0, 0, 1, 0, 0, 0, 10, 0, 0, 0, 1, 120, 0, 0, 0, 1, 121] [([120], [121])] (0, 0, 0, 0, [], [], [], []) y1 (by kernel_rfl) (by decide +kernel) (by decide) (by kernel_rfl) (by decide +kernel) (by decide) (by decide) _ rfl (by decide) p cap w hp hc
end Go.Proofs.Ytkidahlhnhglfaa
