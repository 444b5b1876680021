/-
  Layer atlas: AtlasBack's walk at a byte as it comes.
-/
import Derived.Test.YtodcnemnajlbdaaAtArgs
import Derived.Test.YtodcnemnajlbdaaAtBack
namespace Go.Proofs.Ytodcnemnajlbdaa
open Go.RowKit Go.ChangeShapes Go.WideShapes Go.Gz

theorem back_int (HP : ProgA) (ep : Int) (L : List Sd) (p : Option Addr) (ca : Nat) (key : ByteArray) (z : Int) (hz : (Lit.int .u8 z).wf = true) (w : World) (hp : RowK KS w p L) (hL : L.length ≤ 9223372036854775807) (hkey : key.size ≤ 9223372036854775807) :
    Calls Try.prog 5 #[.agg #[.int .i64 ep, .slice p L.length ca], .string key, .int .u8 z] w fun e w' => e = .returned (.bool true) ∧ Below w.heap.size w w' := by
  obtain ⟨h1, h2⟩ := wf_bounds hz
  have e1 : IntKind.u8.min = 0 := by decide
  have e2 : IntKind.u8.max = 255 := by decide
  obtain ⟨n, rfl⟩ : ∃ n : Nat, z = (n : Int) := ⟨z.toNat, by omega⟩
  exact back_walk HP ep L p ca key n (by omega) w hp hL hkey
end Go.Proofs.Ytodcnemnajlbdaa
