/-
  Plan's law: shown: the chapter's example.
-/
import Derived.Test.YthgjdmomcpcolaaPk
import Derived.Test.YthgjdmomcpcolaaGi
namespace Go.Proofs.Ythgjdmomcpcolaa
open Go.RowKit
set_option maxRecDepth 100000
theorem setL_nil : setL [] = [] := by simp [setL, srt, cmpL, Lib.compact]; decide
theorem setL_one (x : Int) : setL [x] = [x] := by simp [setL, srt, cmpL, Lib.compact]; rfl
theorem setL_two : setL [3, 2] = [2, 3] := by
  simp [setL, srt, cmpL, Lib.compact, List.mergeSort, List.MergeSort.Internal.splitInTwo]
  decide
def L4 : List Sy := [([], [1]), ([1], [2]), ([], [3]), ([3, 2], [])]
def M4 : List Sy := [([], [1]), ([1], [2]), ([], [3]), ([2, 3], [])]
theorem set4 : L4.map setS = M4 := by simp [L4, M4, setS, setL_nil, setL_one, setL_two]
theorem st4 : StOf M4 4 [[0, 2], [1], [3]] := ⟨by decide, by decide⟩
theorem or4 : ordR [[0, 2], [1], [3]] 4 [1, 0, 0, 0] = some [2, 0, 1, 3] := by decide
theorem or5 : ordR [[0, 2], [1], [3]] 4 [2, 0, 0, 0] = none := by decide
theorem cz4 : cz M4 0 1 = true := by decide
theorem cz5 : cz M4 0 2 = false := by decide
theorem lg4 : Lg M4 [0, 1, 2, 3] := ⟨rfl, by decide, by unfold Ah; decide⟩
theorem lg5 : ¬ Lg M4 [1, 0, 2, 3] := fun h => by
  have := (List.pairwise_cons.1 h.2.2).1 0 (by simp)
  exact absurd (this.2 (by decide)) (by decide)
theorem Rw.lit {w : World} {g : Nat} {l : List Int} {cs : Array Value} (h : w.heap[g]? = some (.cells cs 3 (0, 0))) (hl : cs.toList = zc l) (hs : l.length ≤ 1000) : Rw w 0 (.slice (some ⟨g, 0, none⟩) l.length l.length) l := by
  have hc : cs.size = l.length := by rw [← Array.length_toList, hl, zc_len]
  exact ⟨by rw [zc_len]; omega, .inr ⟨g, l.length, cs, rfl, Nat.zero_le _, h, Nat.le_refl _, by simp only [maxLen]; omega, by omega, by rw [hl, Nat.mul_one, ← zc_len, List.take_length]⟩⟩
/-- The example's systems, laid. -/
def c4 (n : Nat) : Array Value := #[.slice none 0 0, .slice none 0 0, .slice none 0 0, .slice (some ⟨n, 0, none⟩) 1 1, .string ⟨#[]⟩, .int .i64 0, .int .i64 0, .slice none 0 0,
    .slice none 0 0, .slice none 0 0, .slice (some ⟨n + 1, 0, none⟩) 1 1, .slice (some ⟨n + 1 + 1, 0, none⟩) 1 1, .string ⟨#[]⟩, .int .i64 0, .int .i64 0, .slice none 0 0,
    .slice none 0 0, .slice none 0 0, .slice none 0 0, .slice (some ⟨n + 1 + 1 + 1, 0, none⟩) 1 1, .string ⟨#[]⟩, .int .i64 0, .int .i64 0, .slice none 0 0,
    .slice none 0 0, .slice none 0 0, .slice (some ⟨n + 1 + 1 + 1 + 1, 0, none⟩) 2 2, .slice none 0 0, .string ⟨#[]⟩, .int .i64 0, .int .i64 0, .slice none 0 0]
def W4 (w : World) : World := ((((((w.alloc (.cells #[.int .i64 1] 3)).alloc (.cells #[.int .i64 1] 3)).alloc (.cells #[.int .i64 2] 3)).alloc (.cells #[.int .i64 3] 3)).alloc (.cells #[.int .i64 3, .int .i64 2] 3)).alloc
  (.cells (c4 w.heap.size) 56))
def y4 (n : Nat) : List Yc := [(.slice none 0 0, .slice none 0 0, .slice none 0 0, .slice (some ⟨n, 0, none⟩) 1 1), (.slice none 0 0, .slice none 0 0, .slice (some ⟨n + 1, 0, none⟩) 1 1, .slice (some ⟨n + 1 + 1, 0, none⟩) 1 1), (.slice none 0 0, .slice none 0 0, .slice none 0 0, .slice (some ⟨n + 1 + 1 + 1, 0, none⟩) 1 1), (.slice none 0 0, .slice none 0 0, .slice (some ⟨n + 1 + 1 + 1 + 1, 0, none⟩) 2 2, .slice none 0 0)]
theorem below4 (w : World) : Below w.heap.size w (W4 w) := below_on (below_on (below_on (below_on (below_on (below_alloc _ _) (below_alloc _ _)) (below_alloc _ _)) (below_alloc _ _)) (below_alloc _ _)) (below_alloc _ _)
theorem lit1 {w : World} {g : Nat} {x : Int} (h : w.heap[g]? = some (.cells #[.int .i64 x] 3 (0, 0))) : Rw w 0 (.slice (some ⟨g, 0, none⟩) 1 1) [x] := Rw.lit (l := [x]) h rfl (by simp)
theorem old4 {w : World} {g : Nat} {o o' : Obj} (h : w.heap[g]? = some o) : (w.alloc o').heap[g]? = some o := ((below_alloc w o').block g (lt_of_block h)).trans h
theorem new1 {w : World} {g : Nat} {o : Obj} (h : w.heap.size = g) : (w.alloc o).heap[g]? = some o := h ▸ heap_alloc_new w o
theorem ys4 (w : World) : Ys (W4 w) (.slice (some ⟨w.heap.size + 1 + 1 + 1 + 1 + 1, 0, none⟩) 4 4) (y4 w.heap.size) L4 := by
  have h0 : (W4 w).heap[w.heap.size]? = some (.cells #[.int .i64 1] 3 (0, 0)) := old4 (old4 (old4 (old4 (old4 (heap_alloc_new _ _)))))
  have h1 : (W4 w).heap[w.heap.size + 1]? = some (.cells #[.int .i64 1] 3 (0, 0)) := old4 (old4 (old4 (old4 (new1 (by simp)))))
  have h2 : (W4 w).heap[w.heap.size + 1 + 1]? = some (.cells #[.int .i64 2] 3 (0, 0)) := old4 (old4 (old4 (new1 (by simp))))
  have h3 : (W4 w).heap[w.heap.size + 1 + 1 + 1]? = some (.cells #[.int .i64 3] 3 (0, 0)) := old4 (old4 (new1 (by simp)))
  have h4 : (W4 w).heap[w.heap.size + 1 + 1 + 1 + 1]? = some (.cells #[.int .i64 3, .int .i64 2] 3 (0, 0)) := old4 (new1 (by simp))
  refine ⟨⟨yc_len _, .inr ⟨_, 4, c4 w.heap.size, rfl, Nat.zero_le _, ?_, Nat.le_refl _, by simp [maxLen], ?_, ?_⟩⟩, rfl, fun i k1 k2 => ?_, fun y hy => ?_⟩
  · exact new1 (by simp)
  · rfl
  · simp [c4, y4, yc, y8, ByteArray.empty, ByteArray.emptyWithCapacity]
    rfl
  · have hi : i < 4 := k1
    have hc : i = 0 ∨ i = 1 ∨ i = 2 ∨ i = 3 := by omega
    rcases hc with rfl | rfl | rfl | rfl
    · exact ⟨Rw.nil _ _, lit1 h0, by simp [L4], by simp [L4, InI], by simp [L4], by simp [L4]⟩
    · exact ⟨lit1 h1, lit1 h2, by simp [L4, InI], by simp [L4, InI], by simp [L4], by simp [L4]⟩
    · exact ⟨Rw.nil _ _, lit1 h3, by simp [L4], by simp [L4, InI], by simp [L4], by simp [L4]⟩
    · exact ⟨Rw.lit (l := [3, 2]) h4 rfl (by simp), Rw.nil _ _, by simp [L4, InI], by simp [L4], by simp [L4], by simp [L4]⟩
  · simp only [y4, List.mem_cons, List.not_mem_nil, or_false] at hy
    rcases hy with rfl | rfl | rfl | rfl <;> exact ⟨⟨_, _, _, rfl⟩, _, _, _, rfl⟩
theorem new4 (w : World) : Calls Try.prog 22 #[.slice (some ⟨w.heap.size + 1 + 1 + 1 + 1 + 1, 0, none⟩) 4 4] (W4 w) fun e w' => ∃ g, e = .returned (.pointer (some ⟨g, 0, none⟩)) ∧ Pl w' w.heap.size g M4 ∧ Below w.heap.size w w' := by
  refine (new_any (ys4 w) (by simp [L4])).mono ?_
  rintro e w' ⟨g, rfl, hP, hB⟩
  rw [set4] at hP
  exact ⟨g, rfl, hP.lower (below4 w).size, below_on (below4 w) hB⟩
theorem lit4 (w : World) (l : List Int) (cs : Array Value) (hl : cs.toList = zc l) (hs : l.length ≤ 1000) : Rl (w.alloc (.cells cs 3)) (.slice (some ⟨w.heap.size, 0, none⟩) l.length l.length) l := Rl.of (Rw.lit (heap_alloc_new w _) hl hs)
theorem order4 {w : World} {B g : Nat} (h : Pl w B g M4) (cs : Array Value) (p : List Int) (r : Option (List Nat)) (hl : cs.toList = zc p) (hp : p.length = 4) (hr : ordR [[0, 2], [1], [3]] 4 p = r) : Calls Try.prog 19 #[.pointer (some ⟨g, 0, none⟩), .slice (some ⟨w.heap.size, 0, none⟩) 4 4] (w.alloc (.cells cs 3)) fun e w' => OrOut w r e w' := by
  have hl4 := lit4 w p cs hl (by omega)
  rw [hp] at hl4
  refine (order_any (h.later (below_alloc w (.cells cs 3))) hl4).mono ?_
  rintro e w' ⟨sts, hs, ho⟩
  rw [StOf.unique hs st4] at ho
  have e4 : M4.length = 4 := rfl
  rw [e4, hr] at ho
  refine ⟨?_, below_on (below_alloc w _) ho.2⟩
  have := ho.1
  cases r with
  | none => exact this
  | some o =>
    obtain ⟨v, e1, e2⟩ := this
    exact ⟨v, e1, own_lower e2 (below_alloc w _).size⟩
theorem legal4 {w : World} {B g : Nat} (h : Pl w B g M4) (cs : Array Value) (p : List Int) (hl : cs.toList = zc p) (hp : p.length = 4) : Calls Try.prog 13 #[.pointer (some ⟨g, 0, none⟩), .slice (some ⟨w.heap.size, 0, none⟩) 4 4] (w.alloc (.cells cs 3)) fun e w' => LgOut w M4 p e w' := by
  have hl4 := lit4 w p cs hl (by omega)
  rw [hp] at hl4
  refine (legal_any (h.later (below_alloc w (.cells cs 3))) hl4).mono ?_
  rintro e w' ⟨b, e1, e2, e3⟩
  exact ⟨b, e1, e2, below_on (below_alloc w _) e3⟩
set_option maxHeartbeats 8000000 in
theorem shown_any (w : World) : Calls Try.prog 6 #[] w fun e w' => e = .returned (.bool true) ∧ Below w.heap.size w w' := by
  obtain ⟨i0, hi0, hz0, hz1, hz2⟩ := info_parts info3
  obtain ⟨j0, hj0, hy0, hy1, hy2⟩ := info_parts info56
  go_enter Try.func6, Try.ntmps6
  go_wp2_with fail
  refine (new4 w).mono ?_
  rintro e w1 ⟨g, rfl, hP, hB⟩
  have HP := hide hP
  have HB := hide hB
  clear hP hB
  go_wp2_with fail
  refine (order4 HP.out _ [1, 0, 0, 0] (some [2, 0, 1, 3]) rfl rfl or4).mono ?_
  rintro e w2 ⟨⟨v2, rfl, hR⟩, b2⟩
  obtain ⟨g2, c2, rfl, hc1, hc2⟩ := own_form hR (by simp [up])
  have HR2 : Hid (Rw w2 0 (.slice (some ⟨g2, 0, none⟩) 4 c2) [2, 0, 1, 3]) := own_lower hR (Nat.zero_le _)
  have HP2 : Hid (Pl w2 w.heap.size g M4) := HP.out.later b2
  have HB2 : Hid (Below w.heap.size w w2) := below_on HB.out b2
  have hc3 : 4 ≤ c2 := hc1
  clear hR b2 HP HB hc1
  rw [show (up [2, 0, 1, 3]).length = 4 from rfl]
  go_wp2_with fail
  refine (order4 HP2.out _ [2, 0, 0, 0] none rfl rfl or5).mono ?_
  rintro e w3 ⟨rfl, b3⟩
  have HR3 : Hid (Rw w3 0 (.slice (some ⟨g2, 0, none⟩) 4 c2) [2, 0, 1, 3]) := own_later HR2.out b3
  have HP3 : Hid (Pl w3 w.heap.size g M4) := HP2.out.later b3
  have HB3 : Hid (Below w.heap.size w w3) := below_on HB2.out b3
  clear b3 HP2 HB2 HR2
  go_wp2_with fail
  refine (conflict_any HP3.out 0 1).mono ?_
  rintro e w4 ⟨rfl, b4⟩
  rw [cz4]
  have HR4 : Hid (Rw w4 0 (.slice (some ⟨g2, 0, none⟩) 4 c2) [2, 0, 1, 3]) := own_later HR3.out b4
  have HP4 : Hid (Pl w4 w.heap.size g M4) := HP3.out.later b4
  have HB4 : Hid (Below w.heap.size w w4) := below_on HB3.out b4
  clear b4 HP3 HB3 HR3
  go_wp2_with fail
  refine (conflict_any HP4.out 0 2).mono ?_
  rintro e w5 ⟨rfl, b5⟩
  rw [cz5]
  have HR5 : Hid (Rw w5 0 (.slice (some ⟨g2, 0, none⟩) 4 c2) [2, 0, 1, 3]) := own_later HR4.out b5
  have HP5 : Hid (Pl w5 w.heap.size g M4) := HP4.out.later b5
  have HB5 : Hid (Below w.heap.size w w5) := below_on HB4.out b5
  clear b5 HP4 HB4 HR4
  go_wp2_with fail
  refine (legal4 HP5.out _ [0, 1, 2, 3] rfl rfl).mono ?_
  rintro e w6 ⟨bb, rfl, hbb, b6⟩
  obtain rfl : bb = true := hbb.2 lg4
  clear hbb
  have HR6 : Hid (Rw w6 0 (.slice (some ⟨g2, 0, none⟩) 4 c2) [2, 0, 1, 3]) := own_later HR5.out b6
  have HP6 : Hid (Pl w6 w.heap.size g M4) := HP5.out.later b6
  have HB6 : Hid (Below w.heap.size w w6) := below_on HB5.out b6
  clear b6 HP5 HB5 HR5
  go_wp2_with fail
  refine (legal4 HP6.out _ [1, 0, 2, 3] rfl rfl).mono ?_
  rintro e w7 ⟨bb, rfl, hbb, b7⟩
  obtain rfl : bb = false := by
    cases bb with
    | false => rfl
    | true => exact absurd (hbb.1 rfl) lg5
  clear hbb
  have HR7 : Hid (Rw w7 0 (.slice (some ⟨g2, 0, none⟩) 4 c2) [2, 0, 1, 3]) := own_later HR6.out b7
  have HP7 : Hid (Pl w7 w.heap.size g M4) := HP6.out.later b7
  have HB7 : Hid (Below w.heap.size w w7) := below_on HB6.out b7
  clear b7 HP6 HB6 HR6
  have e0 : w7.cell? ⟨g2, 0, none⟩ = some (.int .i64 2) := HR7.out.at 0 (by simp)
  have e1 : w7.cell? ⟨g2, 1, none⟩ = some (.int .i64 0) := HR7.out.at 1 (by simp)
  have e2 : w7.cell? ⟨g2, 2, none⟩ = some (.int .i64 1) := HR7.out.at 2 (by simp)
  have e3 : w7.cell? ⟨g2, 3, none⟩ = some (.int .i64 3) := HR7.out.at 3 (by simp)
  go_wp2_with fail
  refine (stages_any HP7.out).mono ?_
  rintro e w8 ⟨v8, rs, sts, rfl, hS, hSt, b8⟩
  have hl : rs.length = 3 := by
    have := hS.2.1
    rw [StOf.unique hSt st4] at this
    exact this
  obtain ⟨a8, c8, rfl⟩ := own_len hS.1
  rw [hl]
  have HB8 : Hid (Below w.heap.size w w8) := below_on HB7.out b8
  clear hS hSt b8 HB7 HP7 HR7
  go_wp2_with fail
  go_ret
  exact ⟨rfl, HB8.out⟩
end Go.Proofs.Ythgjdmomcpcolaa
