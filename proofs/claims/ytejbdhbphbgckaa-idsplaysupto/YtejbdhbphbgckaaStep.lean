/-
  The law's step, whatever its kind.
-/
import Derived.Test.YtejbdhbphbgckaaStA
import Derived.Test.YtejbdhbphbgckaaStB
import Derived.Test.YtejbdhbphbgckaaStC
import Derived.Test.YtejbdhbphbgckaaStD
import Derived.Test.YtejbdhbphbgckaaStE
import Derived.Test.YtejbdhbphbgckaaStF
namespace Go.Proofs.Ytejbdhbphbgckaa
open Go.RowKit
theorem step_any (gw B : Nat) (G : Nat → Nat × Nat) (C : Nat → St) (L : List Held) (w : World) (kd nn a ei eg : Int) (ag af : Option Addr) (ng cg nf cf : Nat) (h : Bu w gw B G C C L) (hL : L.length ≤ 1000000) (hn0 : -9223372036854775808 ≤ nn) (hn1 : nn ≤ 9223372036854775807) (ha0 : -9223372036854775808 ≤ a) (ha1 : a ≤ 9223372036854775807)
    (GL FL : List Int) (hGL : Is w (.slice ag ng cg) GL) (hFL : Is w (.slice af nf cf) FL) (hG9 : GL.length ≤ 1000000000) (hF9 : FL.length ≤ 1000000000) :
    Calls Try.prog 8 #[.pointer (some ⟨gw, 0, none⟩), .agg #[.int .i64 kd, .int .i64 nn, .int .i64 a, .int .i64 ei, .int .i64 eg, .slice ag ng cg, .slice af nf cf]] w fun e w' => e = .returned (.bool true) ∧ Go1 w gw B (L.length + 8) w' := by
  obtain ⟨own, hF, hb⟩ := h
  by_cases h1 : kd = 1
  · subst h1; exact step_1 gw B own G C L w nn a ei eg ag af ng cg nf cf hb hF hL hn0 hn1
  by_cases h2 : kd = 2
  · subst h2; exact step_2 gw B own G C L w nn a ei eg ag af ng cg nf cf hb hF hL hn0 hn1
  by_cases h3 : kd = 3
  · subst h3; exact step_3 gw B own G C L w nn a ei eg ag af ng cg nf cf hb hF hL hn0 hn1 ha0 ha1
  by_cases h4 : kd = 4
  · subst h4; exact step_4 gw B own G C L w nn a ei eg ag af ng cg nf cf hb hF hL hn0 hn1
  by_cases h5 : kd = 5
  · subst h5; exact step_5 gw B own G C L w nn a ei eg ag af ng cg nf cf hb hF hL hn0 hn1
  by_cases h6 : kd = 6
  · subst h6; exact step_6 gw B own G C L w nn a ei eg ag af ng cg nf cf hb hF hL hn0 hn1 GL FL hGL hFL hG9 hF9
  by_cases h7 : kd = 7
  · subst h7; exact step_7 gw B own G C L w nn a ei eg ag af ng cg nf cf hb hF hL hn0 hn1
  by_cases h8 : kd = 8
  · subst h8; exact step_8 gw B own G C L w nn a ei eg ag af ng cg nf cf hb hF hL hn0 hn1
  exact step_other gw B own G C L w kd nn a ei eg ag af ng cg nf cf hb hF hL hn0 hn1 ⟨h1, h2, h3, h4, h5, h6, h7, h8⟩
end Go.Proofs.Ytejbdhbphbgckaa
