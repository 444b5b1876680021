/-
  Layer seal: slices.Concat of two.
-/
import Derived.Test.YtlbkpgpkokgcbaaSlClone
import Derived.Test.YtlbkpgpkokgcbaaByCat
