/-
  LexPlaces: the walk.
-/
import Derived.Test.YtaaiogfbohndaaaDoorShown
namespace Go.Proofs.YtaaiogfbohndaaaDoor
open Go.RowKit
set_option maxRecDepth 1000000
theorem places_walk (s : ByteArray) (x : Int) (hs : s.size ≤ 140737488355328) (w : World) (hw : Wd w) :
    Calls Tryd.prog 5 #[.string s, .int .i64 x] w fun e w' => e = .returned (.bool true) ∧ Below w.heap.size w w' := by
  have c1 := place_any s x hs
  have c2 := dplace_any s x hs
  generalize (pl (bt s) (plA s x)).1 = p1 at c1 c2
  generalize (pl (bt s) (plA s x)).2 = p2 at c1 c2
  go_enter Tryd.func5, Tryd.ntmps5
  go_wp2_with (first | (go_at_call 8; refine (shown_any w hw).mono ?_; rintro e w1 ⟨rfl, hb1, hw1⟩) | (go_at_call 16; refine (c1 _).mono ?_; rintro e w' ⟨rfl, rfl⟩) | (go_at_call 17; refine (c2 _).mono ?_; rintro e w' ⟨rfl, rfl⟩))
  all_goals go_ret
  all_goals exact ⟨rfl, hb1⟩
end Go.Proofs.YtaaiogfbohndaaaDoor
