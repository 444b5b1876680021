/-
  Layer medium: the reference's medium in memory, its Crash.
-/
import Derived.Test.YtkidahlhnhglfaaMdKit
namespace Go.Proofs.Ytkidahlhnhglfaa
open Go.RowKit Go.Gz

namespace RefAt
variable {w : World} {R : Nat} {p : Option Addr} {c : Nat} {X : List UInt8} {l : Nat}
end RefAt

theorem row_take' {w : World} {p : Option Addr} {l : List UInt8} (h : Row w .u8 p (nums l)) (k : Nat) : Row w .u8 p (nums (l.take k)) := row_take h k

end Go.Proofs.Ytkidahlhnhglfaa
