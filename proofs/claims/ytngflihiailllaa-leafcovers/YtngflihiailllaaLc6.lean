/- The law LeafCovers, of a step. -/
import Derived.Test.YtngflihiailllaaLc5
namespace Go.Proofs.Ytngflihiailllaa
open Go.RowKit
theorem leafCovers_all (a : Option Addr) (l c : Nat) (zs : List Cg.Stp) (a2 : Option Addr) (l2 c2 : Nat) (zs2 : List Cg.Stp) (x : Cg.Stp) (W : World) (hz0 : Cg.Stps W a l c zs) (hz2 : Cg.Stps W a2 l2 c2 zs2) (h : True) : Calls Try.prog 4 #[.slice a l c, .slice a2 l2 c2, .agg #[.int .i64 (Cg.Stp.kd x), .string (Cg.Stp.key x), .string (Cg.Stp.to x)]] W fun e w' => e = .returned (.bool true) ∧ Below W.heap.size W w' :=
  leafCovers_w a l c zs a2 l2 c2 zs2 _ _ _ W hz0 hz2 h
end Go.Proofs.Ytngflihiailllaa
