/-
  A function held against nil.
-/
import Derived.Test.YtkohlhnkaklnpaaLent
namespace Go.Proofs.Ytkohlhnkaklnpaa
open Go.RowKit
theorem run_func_nil (w : World) (f : Fn) (a b : Array Value) : (binOp .eql 45 (.func f a b) .nilFunc).run Try.prog w = .ok (.bool false) w := by
  have h : (Op.equalIn (9999 + 1) 45 (.func f a b) .nilFunc).run Try.prog w = .ok false w := by
    rw [Op.equalIn]
    simp only [Sem.run_bind, run_underlying Try.underlying45, Result.andThen_ok]
    rfl
  simp only [binOp]
  simp [Op.equal, Op.maxDepth, h]
end Go.Proofs.Ytkohlhnkaklnpaa
