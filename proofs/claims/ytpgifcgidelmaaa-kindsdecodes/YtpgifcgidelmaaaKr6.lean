/- The reference's Decode of any bytes. -/
import Derived.Test.YtpgifcgidelmaaaKr5
namespace Go.Proofs.Ytpgifcgidelmaaa
open Go.RowKit
set_option linter.unusedVariables false

theorem refDecode_any (A : Option Addr) (N c : Nat) (p : Nat → Nat) (w : World) (hB : Bs w A N p) (hp : ∀ i, p i < 256) (hc : N ≤ c) (hm : c ≤ maxLen) : Calls Try.prog 16 #[.slice A N c] w (DecRet p N w) := by
  by_cases h2 : N < 2
  · exact refDecode_short A N c p w h2
  · rcases Nat.lt_trichotomy N (need p) with h | h | h
    · exact refDecode_few A N c p w hB hp hc hm (by omega) h
    · exact refDecode_even A N c p w hB hp hc hm (by omega) h
    · exact refDecode_many A N c p w hB hp hc hm (by omega) h
end Go.Proofs.Ytpgifcgidelmaaa
