/-
  RecordTorn's walk, whatever comes in.
-/
import Derived.Test.YtkohlhnkaklnpaaTornTT
import Derived.Test.YtkohlhnkaklnpaaTornTZ
import Derived.Test.YtkohlhnkaklnpaaTornTG
import Derived.Test.YtkohlhnkaklnpaaTornZT
import Derived.Test.YtkohlhnkaklnpaaTornZZ
import Derived.Test.YtkohlhnkaklnpaaTornZG
import Derived.Test.YtkohlhnkaklnpaaTornGT
import Derived.Test.YtkohlhnkaklnpaaTornGZ
import Derived.Test.YtkohlhnkaklnpaaTornGG
namespace Go.Proofs.Ytkohlhnkaklnpaa
open Go.RowKit
theorem three_ways (a : List UInt8) : Rc.fits a ∨ a.length = 0 ∨ 100000 < a.length := by
  by_cases h0 : a.length = 0
  · exact .inr (.inl h0)
  · by_cases h1 : 100000 < a.length
    · exact .inr (.inr h1)
    · exact .inl ⟨fun e => h0 (by rw [e]; rfl), by omega⟩
theorem torn_walk (va vd : Value) (a d : List UInt8) (at0 turn : Int) (w : World) (ha : Bs w va a) (hna : NilOr va) (hd : Bs w vd d) (hnd : NilOr vd) (h0 : -9223372036854775808 ≤ at0) (h1 : at0 ≤ 9223372036854775807) (h2 : -9223372036854775808 ≤ turn) (h3 : turn ≤ 9223372036854775807) :
    Calls Try.prog 6 #[va, vd, .int .i64 at0, .int .i64 turn] w fun e w' => e = .returned (.bool true) ∧ Below w.heap.size w w' := by
  rcases three_ways a with pa | pa | pa <;> rcases three_ways d with pd | pd | pd
  · exact torn_tt va vd a d at0 turn w ha hna hd hnd h0 h1 h2 h3 pa pd
  · exact torn_tz va vd a d at0 turn w ha hna hd hnd h0 h1 h2 h3 pa pd
  · exact torn_tg va vd a d at0 turn w ha hna hd hnd h0 h1 h2 h3 pa pd
  · exact torn_zt va vd a d at0 turn w ha hna hd hnd h0 h1 h2 h3 pa pd
  · exact torn_zz va vd a d at0 turn w ha hna hd hnd h0 h1 h2 h3 pa pd
  · exact torn_zg va vd a d at0 turn w ha hna hd hnd h0 h1 h2 h3 pa pd
  · exact torn_gt va vd a d at0 turn w ha hna hd hnd h0 h1 h2 h3 pa pd
  · exact torn_gz va vd a d at0 turn w ha hna hd hnd h0 h1 h2 h3 pa pd
  · exact torn_gg va vd a d at0 turn w ha hna hd hnd h0 h1 h2 h3 pa pd
end Go.Proofs.Ytkohlhnkaklnpaa
