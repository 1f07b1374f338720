/-
  The law's shown: the document's example.
-/
import Derived.Test.YtejbdhbphbgckaaFence
namespace Go.Proofs.Ytejbdhbphbgckaa
open Go.RowKit
set_option maxHeartbeats 8000000 in
set_option maxRecDepth 100000 in
theorem shown_any (w : World) : Calls Try.prog 5 #[] w fun e w' => e = .returned (.bool true) ∧ Below w.heap.size w w' := by
  have HN := hide (new_any 2 w (by omega) (by omega))
  go_enter Try.func5, Try.ntmps5
  go_wp2_with fail
  refine HN.out.mono ?_
  rintro e w1 ⟨rfl, hp1, hb1⟩
  obtain ⟨g, hg⟩ : ∃ g, g = w.heap.size := ⟨_, rfl⟩
  have hP1 : Pf w.heap.size (fun _ => False) w1 g 2 [] [] := ⟨_, hg ▸ hp1, fun k e => ⟨by omega, by have := hp1.1; obtain ⟨_, _, _, h, _⟩ := this; have := h.lt; omega, fun h => h⟩, fun k e => e.elim, hb1.size⟩
  have BE1 := hide hb1
  rw [← hg]
  have HT := hide (pf_take_new hP1 (by simp))
  clear HN hp1 hb1 hP1 hg
  go_wp2_with fail
  refine HT.out.mono ?_
  rintro e w2 ⟨rfl, hP2, -, hb2⟩
  have BE2 := hide (BE1.out.trans hb2)
  have v2 : Vx (w2.alloc (.cells #[.int .i64 0, .int .i64 1] 41)) w2.heap.size (0, 1) := Vx.mk w2 (0, 1)
  have hP2' := hP2.fence (below_alloc w2 (.cells #[.int .i64 0, .int .i64 1] 41)) (N' := fun k => k = w2.heap.size) (fun k e => ⟨.inr (by omega), by simp; omega⟩)
  have HT2 := hide (pf_take_new hP2' (by simp))
  have V2 := hide v2
  clear HT hP2 hP2' hb2 BE1 v2
  simp only [ev, List.length_nil, List.nil_append] at HT2 ⊢
  go_wp2_with fail
  refine HT2.out.mono ?_
  rintro e w3 ⟨rfl, hP3, hk3, hb3⟩
  obtain ⟨A, hA⟩ : ∃ A, A = w2.heap.size := ⟨_, rfl⟩
  rw [← hA] at V2 hP3 hk3 ⊢
  have V3 : Hid (Vx w3 A (0, 1)) := (hk3 A rfl).trans V2.out
  have BE3 := hide ((BE2.out.trans ((below_alloc w2 _).mono BE2.out.size)).trans hb3)
  have hA3 := V3.out.lt
  have hP3' := hP3.fence (below_alloc w3 (.cells #[.int .i64 1, .int .i64 1] 41)) (N' := fun k => k = A ∨ k = w3.heap.size) (fun k e => ⟨by rcases e with e | e; exact .inl e; exact .inr (by omega), by simp; omega⟩)
  have V3' : Hid (Vx (w3.alloc (.cells #[.int .i64 1, .int .i64 1] 41)) A (0, 1)) := ((below_alloc w3 _).block A hA3).trans V3.out
  have U3 : Hid (Vx (w3.alloc (.cells #[.int .i64 1, .int .i64 1] 41)) w3.heap.size (1, 1)) := Vx.mk w3 (1, 1)
  have HP3 := hide hP3'
  have HT3 := hide (pf_take_full (gs := [1, 1]) hP3')
  clear HT2 hP3 hP3' hk3 hb3 BE2 V2 V3 hA
  simp only [ev, List.length_cons, List.length_nil] at HT3 ⊢
  go_wp2_with fail
  refine HT3.out.mono ?_
  rintro e w4 ⟨rfl, hb4⟩
  obtain ⟨B', hB⟩ : ∃ B', B' = w3.heap.size := ⟨_, rfl⟩
  obtain ⟨w5, hw5⟩ : ∃ X, X = w4.alloc (.cells #[.int .i64 0, .int .i64 0] 41) := ⟨_, rfl⟩
  have hb5 : Below (w3.alloc (.cells #[.int .i64 1, .int .i64 1] 41)).heap.size (w3.alloc (.cells #[.int .i64 1, .int .i64 1] 41)) w5 := hw5 ▸ below_on hb4 (below_alloc w4 _)
  have hP5 := HP3.out.later hb5
  have V5 : Hid (Vx w5 A (0, 1)) := (hb5.block A V3'.out.lt).trans V3'.out
  have U5 : Hid (Vx w5 w3.heap.size (1, 1)) := (hb5.block _ U3.out.lt).trans U3.out
  have BE5 := hide ((BE3.out.trans ((below_alloc w3 _).mono BE3.out.size)).trans (hb5.mono (Nat.le_trans BE3.out.size (by simp))))
  rw [← hB] at hP5 U5 ⊢
  have HG := hide (pf_give (i := 0) hP5 (by simp) (by simp) (by simp))
  obtain ⟨c0, c1⟩ := V5.out.cell
  clear HT3 hb4 hb5 HP3 V3' U3 BE3 hP5 hB
  go_upto_region 7 with fail
  rw [← hw5]
  clear hw5
  simp only [ev] at HG c0 c1
  go_wp2_with fail
  refine HG.out.mono ?_
  rintro e w6 ⟨rfl, hP6, hk6, hb6⟩
  have V6 : Hid (Vx w6 A (0, 1)) := (hk6 A (.inl rfl)).trans V5.out
  have U6 : Hid (Vx w6 B' (1, 1)) := (hk6 B' (.inr rfl)).trans U5.out
  have BE6 := hide (BE5.out.trans hb6)
  have HP6 : Hid (Pf w.heap.size (fun k => k = A ∨ k = B') w6 g 2 [1, 1] [0]) := hP6
  have hst : ∃ S, Pl w6 S g 2 [1, 1] [0] := by obtain ⟨S, h, -⟩ := HP6.out; exact ⟨S, h⟩
  obtain ⟨S6, hs6⟩ := hst
  have HG6 := hide (give_stale 0 1 hs6 rfl)
  clear HG hP6 hk6 hb6 V5 U5 BE5 c0 c1 hs6
  obtain ⟨c0, c1⟩ := V6.out.cell
  simp only at c0 c1
  go_wp2_with fail
  refine HG6.out.mono ?_
  rintro e w7 ⟨rfl, hb7⟩
  have V7 : Hid (Vx w7 A (0, 1)) := (hb7.block A V6.out.lt).trans V6.out
  have U7 : Hid (Vx w7 B' (1, 1)) := (hb7.block B' U6.out.lt).trans U6.out
  have BE7 := hide (BE6.out.trans (hb7.mono BE6.out.size))
  have HT := hide (pf_take_free (HP6.out.later hb7))
  clear HG6 hb7 V6 U6 BE6 c0 c1 HP6
  simp only [ev] at HT
  go_wp2_with fail
  refine HT.out.mono ?_
  rintro e w8 ⟨rfl, hP8, hk8, hb8⟩
  have V8 : Hid (Vx w8 A (0, 1)) := (hk8 A (.inl rfl)).trans V7.out
  have U8 : Hid (Vx w8 B' (1, 1)) := (hk8 B' (.inr rfl)).trans U7.out
  have BE8 := hide (BE7.out.trans hb8)
  obtain ⟨w9, hw9⟩ : ∃ X, X = w8.alloc (.cells #[.int .i64 0, .int .i64 2] 41) := ⟨_, rfl⟩
  have hb9 : Below w8.heap.size w8 w9 := hw9 ▸ below_alloc w8 _
  have hst : ∃ S, Pl w9 S g 2 [2, 1] [] := by obtain ⟨S, h, -⟩ := hP8.later hb9; exact ⟨S, h⟩
  obtain ⟨S9, hs9⟩ := hst
  have V9 : Hid (Vx w9 A (0, 1)) := (hb9.block A V8.out.lt).trans V8.out
  have U9 : Hid (Vx w9 B' (1, 1)) := (hb9.block B' U8.out.lt).trans U8.out
  have X9 : Hid (Vx w9 w8.heap.size (0, 2)) := hw9 ▸ Vx.mk w8 (0, 2)
  obtain ⟨C, hC⟩ : ∃ C, C = w8.heap.size := ⟨_, rfl⟩
  rw [← hC] at X9
  have BE9 := hide (BE8.out.trans (hb9.mono BE8.out.size))
  have HS := hide (state_any hs9)
  have HL9 := hide hs9
  clear HT hP8 hk8 hb8 V7 U7 BE7 V8 U8 BE8 hb9 hs9
  go_upto_region 10 with fail
  rw [← hC, ← hw9]
  clear hw9 hC
  go_wp2_with fail
  refine HS.out.mono ?_
  rintro e w10 ⟨x1, x2, rfl, ho1, ho2, -, hb10⟩
  obtain ⟨ga, ca, rfl, -, -⟩ := own_form ho1 (by simp)
  obtain ⟨ao2, ca2, rfl⟩ := own_len ho2
  have V10 : Hid (Vx w10 A (0, 1)) := (hb10.block A V9.out.lt).trans V9.out
  have U10 : Hid (Vx w10 B' (1, 1)) := (hb10.block B' U9.out.lt).trans U9.out
  have X10 : Hid (Vx w10 C (0, 2)) := (hb10.block C X9.out.lt).trans X9.out
  have BE10 := hide (BE9.out.trans (hb10.mono BE9.out.size))
  have HO10 := hide ho1
  have HS10 := hide (HL9.out.later hb10)
  have HL := hide (lives_any 0 2 HS10.out)
  obtain ⟨c0, c1⟩ := X10.out.cell
  simp only at c0 c1
  clear HS ho1 ho2 hb10 V9 U9 X9 BE9 HL9
  go_wp2_with fail
  refine HL.out.mono ?_
  rintro e w11 ⟨rfl, hb11⟩
  have V11 : Hid (Vx w11 A (0, 1)) := (hb11.block A V10.out.lt).trans V10.out
  have U11 : Hid (Vx w11 B' (1, 1)) := (hb11.block B' U10.out.lt).trans U10.out
  have X11 : Hid (Vx w11 C (0, 2)) := (hb11.block C X10.out.lt).trans X10.out
  have BE11 := hide (BE10.out.trans (hb11.mono BE10.out.size))
  have HO11 := hide (own_later HO10.out hb11)
  have HL2 := hide (lives_any 0 1 (HS10.out.later hb11))
  have el : livesOf [2, 1] [] 0 2 = true := rfl
  have el2 : livesOf [2, 1] [] 0 1 = false := rfl
  rw [el2] at HL2
  rw [el]
  clear HL hb11 V10 U10 X10 BE10 HO10 HS10 c0 c1 el el2
  obtain ⟨c0, c1⟩ := V11.out.cell
  simp only at c0 c1
  go_wp2_with fail
  refine HL2.out.mono ?_
  rintro e w12 ⟨rfl, hb12⟩
  obtain ⟨a0, a1⟩ := (show Vx w12 A (0, 1) from (hb12.block A V11.out.lt).trans V11.out).cell
  obtain ⟨b0, b1⟩ := (show Vx w12 B' (1, 1) from (hb12.block B' U11.out.lt).trans U11.out).cell
  obtain ⟨d0, d1⟩ := (show Vx w12 C (0, 2) from (hb12.block C X11.out.lt).trans X11.out).cell
  have z0 := own_int (own_later HO11.out hb12) 0 (by simp)
  have BE12 := hide (BE11.out.trans (hb12.mono BE11.out.size))
  simp only [List.getElem_cons_zero] at a0 a1 b0 b1 d0 d1 z0
  clear HL2 hb12 V11 U11 X11 BE11 HO11 c0 c1
  go_wp2_with fail
  go_ret
  exact ⟨rfl, BE12.out⟩
end Go.Proofs.Ytejbdhbphbgckaa
