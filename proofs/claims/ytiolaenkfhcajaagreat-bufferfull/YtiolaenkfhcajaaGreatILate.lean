/-
  A region that draws its order: a load may be taken first where only operations that wait for it write its cell.
  (As the library's own law on held regions, but the condition need not be shown behind those that wait for all that lean on it.)
-/
import Derived.Test.YtiolaenkfhcajaaGreatIBase
namespace Go.Proofs.YtiolaenkfhcajaaGreat
section
variable {P : Program} {ops : Array Oper} {Q : Exit → Act → World → Prop} {md : Region.Mode} {J : Nat → Bool} {S : World → Prop}
end
end Go.Proofs.YtiolaenkfhcajaaGreat
