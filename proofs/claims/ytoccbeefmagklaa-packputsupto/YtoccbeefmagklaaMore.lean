/-
  A region that draws its order: the condition on the world may grow on the way. No program in this text.
-/
import Derived.OrdersHeld
namespace Go.Proofs.Ytoccbeefmagklaa
theorem wpAnyH_more {P : Program} {md : Region.Mode} {ops : Array Oper} {Q : Exit → Act → World → Prop} {S S' : World → Prop} (h : ∀ w, S' w → S w) :
    ∀ (fuel : Nat) (listed : Array Bool) (a : Act) (w : World), wpAnyH P md ops Q S' fuel listed a w → wpAnyH P md ops Q S fuel listed a w
  | 0, _, _, _, hw => hw
  | fuel + 1, _, _, _, hw => ⟨hw.1, fun i hi => wpOp_mono (fun _ _ hk => ⟨h _ hk.1, wpAnyH_more h fuel _ _ _ hk.2⟩) (hw.2 i hi)⟩
end Go.Proofs.Ytoccbeefmagklaa
