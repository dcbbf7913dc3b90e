/- KindsDecodes: the walk. -/
import Derived.Test.YtpgifcgidelmaaaKt1
import Derived.Test.YtpgifcgidelmaaaKr6
import Derived.Test.YtpgifcgidelmaaaBookOpen
namespace Go.Proofs.Ytpgifcgidelmaaa
open Go.RowKit

theorem walk_KindsDecodes (S : Option Addr) (N cs : Nat) (p : Nat → Nat) (w : World) (hS : Bs w S N p) (hp : ∀ i, p i < 256) (hN : N ≤ cs) (hcs : cs ≤ maxLen) :
    Calls Try.prog 6 #[.slice S N cs] w (Ret (.bool true) w) :=
  walk_decodes refDecode_any S N cs p w hS hp hN hcs
end Go.Proofs.Ytpgifcgidelmaaa
