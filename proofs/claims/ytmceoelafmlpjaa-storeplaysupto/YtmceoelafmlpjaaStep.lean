/-
  The law's step: one call of a pair, whatever its kind.
-/
import Derived.Test.YtmceoelafmlpjaaStepA
import Derived.Test.YtmceoelafmlpjaaStepB
import Derived.Test.YtmceoelafmlpjaaStepC
import Derived.Test.YtmceoelafmlpjaaStepD
namespace Go.Proofs.Ytmceoelafmlpjaa
open Go.RowKit
theorem step_walk {S : Nat → Prop} {B gp ga gb nk : Nat} {L O b : List UInt8} {off : Bool} {f : Int} (kd hh q : Int) (bao : Option Addr) (bc : Nat) (w : World) (h : Ps w S B gp ga gb nk (fun _ => False) w L O off f) (hb : ∀ W, Below B w W → Bs W (.slice bao b.length bc) b) (hnb : NilOr (.slice bao b.length bc)) (hvb : 0 < b.length → ∀ k, (Value.slice bao b.length bc).ownBlock = some k → k < B) (hbl : b.length ≤ 1048576) (hq : q ≤ 9223372036854775807) (hnk : nk ≤ 100000) :
    Calls Try.prog 8 #[.pointer (some ⟨gp, 0, none⟩), .agg #[.int .i64 kd, .int .i64 hh, .int .i64 q, .slice bao b.length bc]] w fun e w' => e = .returned (.bool true) ∧ ∃ L' O' off' f', Ps w S B gp ga gb (nk + 4) (fun _ => False) w' L' O' off' f' := by
  by_cases k1 : kd = 1
  · subst k1
    exact step_append hh q bao bc w h hb hnb hvb hbl hq hnk
  by_cases k2 : kd = 2
  · subst k2
    exact step_sync hh q bao bc w h hb hnb hvb hbl hq hnk
  by_cases k3 : kd = 3
  · subst k3
    exact step_cut hh q bao bc w h hb hnb hvb hbl hq hnk
  by_cases k4 : kd = 4
  · subst k4
    exact step_bytes hh q bao bc w h hb hnb hvb hbl hq hnk
  by_cases k5 : kd = 5
  · subst k5
    exact step_fuse hh q bao bc w h hb hnb hvb hbl hq hnk
  by_cases k6 : kd = 6
  · subst k6
    exact step_crash hh q bao bc w h hb hnb hvb hbl hq hnk
  by_cases k7 : kd = 7
  · subst k7
    exact step_restart hh q bao bc w h hb hnb hvb hbl hq hnk
  exact step_none kd hh q bao bc w h hb hnb hvb hbl hq hnk k1 k2 k3 k4 k5 k6 k7
end Go.Proofs.Ytmceoelafmlpjaa
