/-
  Layer medium: a medium and the reference's beside it; the law's 'do'.
-/
import Derived.Test.YtkidahlhnhglfaaMdOps
import Derived.Test.YtkidahlhnhglfaaMdRef
namespace Go.Proofs.Ytkidahlhnhglfaa
open Go.RowKit Go.Gz

namespace Half
variable {w w1 : World} {B M R : Nat} {vs vl : Value} {S L X : List UInt8} {p : Option Addr} {c l : Nat}
end Half

def deedV (D N : Int) (p : Option Addr) (n c : Nat) : Value := .agg #[.int .i64 D, .int .i64 N, .slice p n c]
section
variable {w : World} {B M R n : Nat}
end
end Go.Proofs.Ytkidahlhnhglfaa
