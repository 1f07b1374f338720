/-
  World: rows are put in order by their numbers: slices.SortFunc at rows, laid.
-/
import Derived.Test.YtafmiolehlagkaaGreatWSort
namespace Go.Proofs.YtafmiolehlagkaaGreat
open Go.RowKit Go.Shelf Go.Lib Go.Sort
set_option maxRecDepth 100000
def renR : Ren := ⟨fun x => if x = 6 then 82 else if x = 14 then 153 else if x = 15 then 154 else if x = 20 then 184 else if x = 21 then 185 else if x = 22 then 186 else if x = 23 then 187 else if x = 24 then 188 else if x = 25 then 189 else if x = 26 then 190 else if x = 27 then 191 else if x = 28 then 192 else if x = 29 then 165 else if x = 46 then 213 else if x = 47 then 214 else if x = 48 then 215 else if x = 49 then 216 else if x = 50 then 217 else if x = 57 then 222 else x, fun x => if x = 22 then 78 else if x = 24 then 87 else if x = 25 then 145 else if x = 39 then 211 else if x = 45 then 230 else if x = 46 then 231 else if x = 50 then 176 else if x = 53 then 237 else if x = 55 then 165 else if x = 66 then 248 else if x = 70 then 252 else if x = 76 then 258 else if x = 77 then 166 else x, fun x => x⟩
set_option maxHeartbeats 8000000 in
theorem laidR : SlLaysF0.n6 Tryz.prog renR where
  mixed := by kernel_rfl
  f6 := ⟨"slices.SortFunc[[]hindcast/api.Row,hindcast/api.Row]", by decide, by kernel_rfl⟩
  f14 := ⟨"slices.pdqsortCmpFunc[hindcast/api.Row]", by decide, by kernel_rfl⟩
  f15 := by kernel_rfl
  f20 := ⟨"slices.insertionSortCmpFunc[hindcast/api.Row]", by decide, by kernel_rfl⟩
  f21 := ⟨"slices.heapSortCmpFunc[hindcast/api.Row]", by decide, by kernel_rfl⟩
  f22 := ⟨"slices.breakPatternsCmpFunc[hindcast/api.Row]", by decide, by kernel_rfl⟩
  f23 := ⟨"slices.choosePivotCmpFunc[hindcast/api.Row]", by decide, by kernel_rfl⟩
  f24 := ⟨"slices.reverseRangeCmpFunc[hindcast/api.Row]", by decide, by kernel_rfl⟩
  f25 := ⟨"slices.partialInsertionSortCmpFunc[hindcast/api.Row]", by decide, by kernel_rfl⟩
  f26 := ⟨"slices.partitionEqualCmpFunc[hindcast/api.Row]", by decide, by kernel_rfl⟩
  f27 := ⟨"slices.partitionCmpFunc[hindcast/api.Row]", by decide, by kernel_rfl⟩
  f28 := by kernel_rfl
  f29 := by kernel_rfl
  f46 := ⟨"slices.siftDownCmpFunc[hindcast/api.Row]", by decide, by kernel_rfl⟩
  f47 := by kernel_rfl
  f48 := by kernel_rfl
  f49 := ⟨"slices.medianAdjacentCmpFunc[hindcast/api.Row]", by decide, by kernel_rfl⟩
  f50 := ⟨"slices.medianCmpFunc[hindcast/api.Row]", by decide, by kernel_rfl⟩
  f57 := ⟨"slices.order2CmpFunc[hindcast/api.Row]", by decide, by kernel_rfl⟩
  t0 := by kernel_rfl
  a0 := fun w => by kernel_rfl
  z0 := fun w => by kernel_rfl
  v0 := fun w => by kernel_rfl
  t3 := by kernel_rfl
  a3 := fun w => by kernel_rfl
  z3 := fun w => by kernel_rfl
  v3 := fun w => by kernel_rfl
  t4 := by kernel_rfl
  a4 := fun w => by kernel_rfl
  z4 := fun w => by kernel_rfl
  v4 := fun w => by kernel_rfl
  t5 := by kernel_rfl
  a5 := fun w => by kernel_rfl
  z5 := fun w => by kernel_rfl
  v5 := fun w => by kernel_rfl
  t9 := by kernel_rfl
  a9 := fun w => by kernel_rfl
  z9 := fun w => by kernel_rfl
  v9 := fun w => by kernel_rfl
  t22 := by kernel_rfl
  a22 := fun w => by kernel_rfl
  z22 := fun w => by kernel_rfl
  v22 := fun w => by kernel_rfl
  t25 := by kernel_rfl
  a25 := fun w => by kernel_rfl
  z25 := fun w => by kernel_rfl
  v25 := fun w => by kernel_rfl
  t39 := by kernel_rfl
  a39 := fun w => by kernel_rfl
  z39 := fun w => by kernel_rfl
  v39 := fun w => by kernel_rfl
  t45 := by kernel_rfl
  a45 := fun w => by kernel_rfl
  z45 := fun w => by kernel_rfl
  v45 := fun w => by kernel_rfl
  t46 := by kernel_rfl
  a46 := fun w => by kernel_rfl
  z46 := fun w => by kernel_rfl
  v46 := fun w => by kernel_rfl
  t50 := by kernel_rfl
  a50 := fun w => by kernel_rfl
  z50 := fun w => by kernel_rfl
  v50 := fun w => by kernel_rfl
  t53 := by kernel_rfl
  a53 := fun w => by kernel_rfl
  z53 := fun w => by kernel_rfl
  v53 := fun w => by kernel_rfl
  t55 := by kernel_rfl
  a55 := fun w => by kernel_rfl
  z55 := fun w => by kernel_rfl
  v55 := fun w => by kernel_rfl
  t66 := by kernel_rfl
  a66 := fun w => by kernel_rfl
  z66 := fun w => by kernel_rfl
  v66 := fun w => by kernel_rfl
  t70 := by kernel_rfl
  a70 := fun w => by kernel_rfl
  z70 := fun w => by kernel_rfl
  v70 := fun w => by kernel_rfl
  t76 := by kernel_rfl
  a76 := fun w => by kernel_rfl
  z76 := fun w => by kernel_rfl
  v76 := fun w => by kernel_rfl
  t77 := by kernel_rfl
  a77 := fun w => by kernel_rfl
  z77 := fun w => by kernel_rfl
  v77 := fun w => by kernel_rfl
end Go.Proofs.YtafmiolehlagkaaGreat
