/-
  LexWords: the words, and what stands there.
-/
import Derived.Test.YtaaiogfbohndaaaDoorHld
import Derived.Test.YtaaiogfbohndaaaDoorKap
import Derived.Test.YtaaiogfbohndaaaDoorShown
import Derived.Lib.SmallJoins
import Derived.Deep.LoopGhost
namespace Go.Proofs.YtaaiogfbohndaaaDoor
open Go.RowKit
set_option maxRecDepth 1000000
def meaning : ByteArray := { data := (([97, 98, 115, 32, 97, 100, 100, 32, 100, 105, 101, 32, 101, 108, 115, 101, 32, 101, 109, 105, 116, 32, 102, 117, 110, 99, 32, 104, 97, 115, 32, 105, 102].append [32, 105, 110, 112, 117, 116, 32, 108, 101, 116, 32, 109, 97, 120, 32, 109, 101, 32, 109, 105, 110, 32, 114, 97, 110, 100, 32, 114, 101, 97, 100, 115, 32, 114]).append ([101, 109, 111, 118, 101, 32, 114, 101, 112, 101, 97, 116, 32, 114, 101, 116, 117, 114, 110, 32, 115, 112, 97, 119, 110, 32, 115, 116, 111, 112, 32, 115, 121, 115].append [116, 101, 109, 32, 116, 105, 99, 107, 32, 119, 104, 105, 108, 101, 32, 119, 105, 116, 104, 32, 119, 105, 116, 104, 111, 117, 116, 32, 119, 114, 105, 116, 101, 115])).toArray }
def ws : List (List UInt8) := [[97, 98, 115], [97, 100, 100], [100, 105, 101], [101, 108, 115, 101], [101, 109, 105, 116], [102, 117, 110, 99], [104, 97, 115], [105, 102], [105, 110, 112, 117, 116], [108, 101, 116], [109, 97, 120], [109, 101], [109, 105, 110], [114, 97, 110, 100], [114, 101, 97, 100, 115], [114, 101, 109, 111, 118, 101], [114, 101, 112, 101, 97, 116], [114, 101, 116, 117, 114, 110], [115, 112, 97, 119, 110], [115, 116, 111, 112], [115, 121, 115, 116, 101, 109], [116, 105, 99, 107], [119, 104, 105, 108, 101], [119, 105, 116, 104], [119, 105, 116, 104, 111, 117, 116], [119, 114, 105, 116, 101, 115]]
def wsL : List Value := ws.map fun l => Value.string ⟨l.toArray⟩
theorem fields_meaning : Lib.fields meaning.data.toList = ws := by kernel_rfl
theorem ascii_meaning : ∀ (j : Nat) b, meaning.data.toList[j]? = some b → b.toNat < 128 := by
  intro j b h
  have hm := List.mem_of_getElem? h
  have : meaning.data.toList.all (fun b => decide (b.toNat < 128)) = true := by kernel_rfl
  exact of_decide_eq_true (List.all_eq_true.1 this b hm)
/-- The library's table of blanks has its value. -/
def Tb (w : World) : Prop := Lib.TabIs Tryd.prog w "strings.asciiSpace" .u8 Lib.asciiSpaceTab
theorem gTab : Tryd.prog.globalNamed "strings.asciiSpace" = some 0 := by kernel_rfl
theorem Tb.below {w w' : World} {B : Nat} (h : Tb w) (hb : Below B w w') (hB : w.heap.size ≤ B) : Tb w' := Joins.tab_stays gTab h hb hB
theorem words_any (w : World) (ht : Tb w) : Calls Tryd.prog 14 #[] w fun e w' => e = .returned (.slice (some ⟨w.heap.size, 0, none⟩) 26 26) ∧ w' = w.alloc (.cells wsL.toArray 9) := by
  have c20 := Tryd.strings_Fields meaning w (by decide) ascii_meaning ht
  rw [fields_meaning] at c20
  go_enter Tryd.func14, Tryd.ntmps14
  go_wp2_with (go_at_call 20; refine c20.mono ?_; rintro e w' ⟨rfl, rfl⟩)
  go_ret
  exact ⟨rfl, rfl⟩
theorem dwords_any (w : World) : Calls Tryd.prog 13 #[] w fun e w' => e = .returned (.slice (some ⟨w.heap.size, 0, none⟩) 26 26) ∧ w' = w.alloc (.cells wsL.toArray 9) := by
  go_enter Tryd.func13, Tryd.ntmps13
  go_wp2
  go_ret
  exact ⟨rfl, rfl⟩
end Go.Proofs.YtaaiogfbohndaaaDoor
