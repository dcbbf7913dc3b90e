/- The walk of the law CraterOrders. -/
import Derived.Test.YtcneilhhpblclaaLCrOrdersBad
namespace Go.Proofs.Ytcneilhhpblclaa
open Go.RowKit
set_option linter.unusedVariables false

theorem walk_CraterOrders (W H T : Int) (A : Option Addr) (n c : Nat) (p : Nat → Nat) (Ah : Option Addr) (nh kh : Nat) (h : Nat → Ht) (w : World) (hb : Bs w A n p) (hp : ∀ i, p i < 256) (hn : n ≤ c) (hc : c ≤ maxLen) (hH : Hs w Ah nh h) (hn2 : nh ≤ kh) (hkh : kh ≤ maxLen) :
    Calls Try.prog 5 #[.agg #[.int .i64 W, .int .i64 H, .int .i64 T, .slice A n c], .slice Ah nh kh] w (Ret (.bool true) w) := by
  by_cases hv : Val W H T (fewN n) ∧ ∀ q, q < someN nh → Ok9 (h q)
  · exact orders_ok W H T A n c p Ah nh kh h w hb hp hn hc hH hn2 hkh hv.1 hv.2
  · exact orders_bad W H T A n c p Ah nh kh h w hb hp hn hc hH hn2 hkh hv

end Go.Proofs.Ytcneilhhpblclaa
