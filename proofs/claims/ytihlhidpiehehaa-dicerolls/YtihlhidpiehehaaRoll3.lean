/-
  DiceRolls: one roll that shuffles.
-/
import Derived.Test.YtihlhidpiehehaaRoll
namespace Go.Proofs.Ytihlhidpiehehaa
open Go.RowKit
set_option maxRecDepth 100000
theorem put_mv {w3 w5 w6 w8 w9 : World} {A A2 : Obj} {r1 r2 : Option Nat} {kb : Nat} {x y : Value} {S : Nat → Prop} (h1 : (w3.alloc A).grownBy w5 r1) (h6 : w6 = w5.setCell ⟨kb, 0, none⟩ x) (h2 : (w6.alloc A2).grownBy w8 r2) (h9 : w9 = w8.setCell ⟨kb, 1, none⟩ y) (q1 : ∀ k, k < w3.heap.size → r1 = some k → S k) (q2 : ∀ k, k < w3.heap.size → r2 = some k → S k) (q3 : S kb) : Mv w3 w9 S := by
  have m5 : Mv w3 w5 S := ((Mv.refl w3 S).alloc A).grown h1 q1
  have m6 : Mv w3 w6 S := by rw [h6]; exact m5.set q3 _ _
  have m8 : Mv w3 w8 S := (m6.alloc A2).grown h2 q2
  rw [h9]
  exact m8.set q3 _ _
section
variable {w : World} {B : Nat} {own : Nat → Nat} {kb gd gr : Nat} {s : Int}
set_option maxHeartbeats 4000000 in
theorem roll_3 (h : Bo w B own kb) (hd : Dz w gd s) (hr : Rz w gr s) (o1 : own gd = 0) (o2 : own gr = 0) (hne : gd ≠ gr) (kd on nn a b : Int) (hkd : I6 kd) (_ha : I6 a) (_hb : I6 b) (hp : pickI kd 4 = 3) (hB : B ≤ w.heap.size) :
    Calls Try.prog 12 #[.pointer (some ⟨kb, 0, none⟩), .pointer (some ⟨gd, 0, none⟩), .pointer (some ⟨gr, 0, none⟩), .agg #[.int .i64 kd, .int .i64 on, .int .i64 nn, .int .i64 a, .int .i64 b]] w fun e w' => e = .returned (.bool true) ∧ Rolled w B own kb gd gr w' := by
  obtain ⟨w1, hw1⟩ : ∃ W, W = w.alloc (.cells #[.int .i64 kd, .int .i64 on, .int .i64 nn, .int .i64 a, .int .i64 b] 39) := ⟨_, rfl⟩
  obtain ⟨ko, hko⟩ : ∃ k, k = w.heap.size := ⟨_, rfl⟩
  have hk1 : w1.heap[ko]? = some (.cells #[.int .i64 kd, .int .i64 on, .int .i64 nn, .int .i64 a, .int .i64 b] 39 (0, 0)) := by rw [hw1, hko]; exact heap_alloc_new _ _
  have hb1 : Below w.heap.size w w1 := hw1 ▸ below_alloc w _
  have hgk : gd ≠ ko ∧ gr ≠ ko := by have := hd.lt; have := hr.lt; omega
  have HC : Hid (∀ W, Mv w1 W (fun k => k = gd ∨ k = gr) → W.cell? ⟨ko, 0, none⟩ = some (.int .i64 kd) ∧ W.cell? ⟨ko, 1, none⟩ = some (.int .i64 on) ∧ W.cell? ⟨ko, 2, none⟩ = some (.int .i64 nn) ∧ W.cell? ⟨ko, 3, none⟩ = some (.int .i64 a) ∧ W.cell? ⟨ko, 4, none⟩ = some (.int .i64 b)) := fun W hm => by
    have := hm.at hk1 (fun e => by omega)
    refine ⟨?_, ?_, ?_, ?_, ?_⟩ <;> rw [cell_of_row W ko _ _ 39 (0, 0) this] <;> rfl
  have HD1 := hide (hd.later hb1)
  have HR1 := hide (hr.later hb1)
  have HB1 := hide hb1
  have H := hide h
  have JP := hide (pick_any kd 4 w1 hkd (by omega) (by omega))
  rw [hp] at JP
  obtain ⟨x0, x1, x2, x3, x4⟩ := HC.out w1 (Mv.refl _ _)
  clear h hd hr hk1 hb1 hp
  go_enter Try.func12, Try.ntmps12
  go_wp2_with fail
  rw [← hko, ← hw1]
  have HKO := hide hko
  clear hko hw1
  refine JP.out.mono ?_
  rintro e w1' ⟨rfl, rfl⟩
  obtain ⟨i0, hi0, hz0, hz1, hz2⟩ := info_parts info45
  have J1 := hide (shuffle_tr HD1.out nn)
  have hRl := ordR_len nn s
  have J2 := hide (fun (W : World) (hm : Mv w1' W (fun k => k = gd)) => dshuffle_tr (HR1.out.frame hm (fun e => hne e.symm)) nn)
  generalize ordR nn s = R at *
  generalize ordT nn s = s2 at *
  clear x0 x1 x3 x4
  go_wp2_with fail
  refine J1.out.mono ?_
  rintro e w2 ⟨u, rfl, tu, nu, hd2, hm2⟩
  obtain ⟨y0, y1, y2, y3, y4⟩ := HC.out w2 (hm2.mono (fun _ _ e => .inl e))
  have HU2 := hide (And.intro tu (And.intro nu (And.intro hd2 hm2)))
  clear tu nu hd2 hm2 y0 y1 y3 y4 x2
  go_wp2_with fail
  refine (J2.out _ HU2.out.2.2.2).mono ?_
  rintro e w3 ⟨u2, rfl, tu2, nu2, hr3, hm3⟩
  obtain ⟨tu, nu, hd2, hm2⟩ := HU2.out
  obtain ⟨vl, vw, ls, ms, ρ, hk⟩ := H.out
  have hown0 : ∀ k, w.heap.size ≤ k → own k = 0 := fun k hk' => by
    by_cases c : own k = 0
    · exact c
    · have := (hk.2.2.2.2.2.1 k c).2; omega
  have hs1 := HB1.out.size
  have hk3 := ((hk.later HB1.out).frame hm2 (fun k e => by rw [e]; exact o1)).frame hm3 (fun k e => by rw [e]; exact o2)
  have tu3 : Tr w3 u R := tu.frame hm3 (fun k e e' => by have := nu k e; have := HR1.out.lt; omega)
  have hd3 : Dz w3 gd s2 := hd2.frame hm3 hne
  obtain ⟨own', hk4, lu, lu2, lo⟩ := hk3.care tu3 tu2 (fun k e => by have := nu k e; exact ⟨hown0 k (by omega), by omega⟩) (fun k e => by have := nu2 k e; have := hm2.size; exact ⟨hown0 k (by omega), by omega⟩) (fun k e e' => by have := tu.lt k e; have := nu2 k e'; omega)
  have hsm : ∀ k, k < w.heap.size → own' k = own k := fun k hk' => lo k (fun e => by have := nu k e; omega) (fun e => by have := nu2 k e; have := hm2.size; omega)
  have hmv : Mv w w3 (fun k => k = gd ∨ k = gr ∨ own k ≠ 0) := ((Mv.of_below HB1.out (fun k => k = gd ∨ k = gr ∨ own k ≠ 0)).trans hm2 (fun k _ e => .inl e)).trans hm3 (fun k _ e => .inr (.inl e))
  have hg0 : own' gd = 0 ∧ own' gr = 0 := by
    have q1 := HD1.out.lt
    have q2 := HR1.out.lt
    exact ⟨(lo gd (fun e => by have := nu gd e; omega) (fun e => by have := nu2 gd e; have := hm2.size; omega)).trans o1, (lo gr (fun e => by have := nu gr e; omega) (fun e => by have := nu2 gr e; have := hm2.size; omega)).trans o2⟩
  have hB3 : B ≤ w3.heap.size := by have := hm2.size; have := hm3.size; omega
  obtain ⟨al, cl, rfl⟩ := own_len hk4.2.1.1
  obtain ⟨aw, cw, rfl⟩ := own_len hk4.2.2.1.1
  have hml := hk4.2.2.2.1
  obtain ⟨c0, c1⟩ := hk4.cells
  have h40 : ls.length ≤ 40 := hk4.2.2.2.2.2.2.1
  obtain ⟨au, hau, hauf⟩ := tu3.form
  obtain ⟨au2, hau2, hauf2⟩ := tu2.form
  subst hau
  subst hau2
  have cap1 := own_cap hk4.2.1.1
  have HK4 := hide hk4
  have HT := hide (And.intro tu3 tu2)
  have HL := hide (And.intro lu (And.intro lu2 (And.intro hsm hg0)))
  have HMV := hide hmv
  have HD3 := hide (And.intro hd3 hr3)
  have HML := hide hml
  clear tu nu hd2 hm2 hk hown0 hk3 tu3 hd3 hk4 lu lu2 lo hsm hmv hml tu2 nu2 hr3 hm3 hauf hauf2 y2 HU2 hg0 J1 J2 JP
  have HJS := hide (fun (W : World) (va vb : Value) (h1 : Tr W va R) (h2 : Tr W vb R) => same_any h1 h2 hRl)
  by_cases hlt : ls.length < 40
  · have hlt' : (ls.length : Int) < 40 := by omega
    have hk4' := HK4.out.later (below_alloc w3 (.cells #[.slice au R.length R.length] 45))
    have HO : Hid ((w3.alloc (.cells #[.slice au R.length R.length] 45)).ownsRow 0 45 1 (.slice al ls.length cl) ls.length ls) := hk4'.2.1.1
    have HK5 := hide hk4'
    clear hk4'
    go_wp2_with (at_builtin; refine wpList_append_own_at _ rfl _ _ 34 rfl 0 45 i0 (.slice none 0 0) 1 24 Try.underlying34 hi0 hz0 hz1 hz2 rfl (by decide) _ ls.length ls rfl HO.out ⟨w3.heap.size, 0, none⟩ 1 1 [.slice au R.length R.length] rfl rfl (cell_one_new _ _ _) ?f2 ?f3 ?f4 (Nat.zero_le _) ?_)
    case f2 => intro x hx; simp at hx; subst hx; rfl
    case f3 => unfold maxLen; omega
    case f4 => omega
    intro vn w5 hon hgn _ hvn
    obtain ⟨an, cn, rfl⟩ := own_len hon
    have HB6 := hide (HK5.out.add1 (u := .slice au R.length R.length) (u2 := .slice au2 R.length R.length) (R := R) (by simp; omega) (HT.out.1.later (below_alloc w3 _)) HL.out.1 (HT.out.2.later (below_alloc w3 _)) HL.out.2.1 hRl hlt hon hgn (by rw [sz1]; exact hvn))
    have HG5 := hide (And.intro hon (And.intro hgn hvn))
    have k5 : w5.heap[kb]? = some (.cells #[.slice al ls.length cl, .slice aw ms.length cw] 36 (0, 0)) := (mv_grown hgn).at HK5.out.1 (fun e => by have h1 := HK5.out.2.1.2.2.1 kb e; have h2 := HK5.out.2.2.2.2.1; omega)
    have f5 : w5.frozen? ⟨kb, 0, none⟩ = false := frozen_of_row w5 _ 0 _ 36 k5
    have g5 : w5.cell? ⟨kb, 0, none⟩ = some (.slice al ls.length cl) := by rw [cell_of_row w5 _ _ _ 36 (0, 0) k5]; rfl
    clear hon hgn hvn k5
    go_upto_region 11 with fail
    obtain ⟨w6, hw6⟩ : ∃ W, W = w5.setCell ⟨kb, 0, none⟩ (.slice an (ls.length + 1) cn) := ⟨_, rfl⟩
    rw [← hw6] at HB6 ⊢
    have HW6 := hide hw6
    clear hw6 f5 g5
    obtain ⟨-, c6⟩ := HB6.out.cells
    have HB7 := hide (HB6.out.later (below_alloc w6 (.cells #[.slice au2 R.length R.length] 45)))
    have HO7 : Hid ((w6.alloc (.cells #[.slice au2 R.length R.length] 45)).ownsRow 0 45 1 (.slice aw ms.length cw) ms.length ms) := HB7.out.2.2.1.1
    have hms : ms.length < 40 := by have := HML.out; omega
    clear c0 c1
    go_wp2_with (at_builtin; refine wpList_append_own_at _ rfl _ _ 34 rfl 0 45 i0 (.slice none 0 0) 1 24 Try.underlying34 hi0 hz0 hz1 hz2 rfl (by decide) _ ms.length ms rfl HO7.out ⟨w6.heap.size, 0, none⟩ 1 1 [.slice au2 R.length R.length] rfl rfl (cell_one_new _ _ _) ?f2 ?f3 ?f4 (Nat.zero_le _) ?_)
    case f2 => intro x hx; simp at hx; subst hx; rfl
    case f3 => unfold maxLen; omega
    case f4 => omega
    intro vn2 w8 hon hgn _ hvn
    obtain ⟨an2, cn2, rfl⟩ := own_len hon
    have HB9 := hide (HB7.out.add2 (by have := HW6.out; have h1 := HG5.out.2.1.size; rw [sz1] at h1 ⊢; rw [this]; simp; omega) hon hgn (by rw [sz1]; exact hvn))
    have k8 : w8.heap[kb]? = some (.cells #[.slice an (ls.length + 1) cn, .slice aw ms.length cw] 36 (0, 0)) := (mv_grown hgn).at HB7.out.1 (fun e => by have h1 := HB7.out.2.2.1.2.2.1 kb e; have h2 := HB7.out.2.2.2.2.1; omega)
    have f8 : w8.frozen? ⟨kb, 1, none⟩ = false := frozen_of_row w8 _ 1 _ 36 k8
    have g8 : w8.cell? ⟨kb, 1, none⟩ = some (.slice aw ms.length cw) := by rw [cell_of_row w8 _ _ _ 36 (0, 0) k8]; rfl
    have HG8 := hide (And.intro hon (And.intro hgn hvn))
    clear hon hgn hvn k8 c6
    go_upto_region 12 with fail
    obtain ⟨w9, hw9⟩ : ∃ W, W = w8.setCell ⟨kb, 1, none⟩ (.slice an2 (ms.length + 1) cn2) := ⟨_, rfl⟩
    rw [← hw9] at HB9 ⊢
    have HW9 := hide hw9
    clear hw9 f8 g8
    have JS := hide (HJS.out w9 (.slice au R.length R.length) (.slice au2 R.length R.length) (by have := (HB9.out.last HML.out).1; rwa [if_pos rfl] at this) (by have := (HB9.out.last HML.out).2; rwa [if_pos rfl] at this))
    go_wp2_with fail
    refine JS.out.mono ?_
    rintro e wf ⟨rfl, hbf⟩
    have HBF := hide hbf
    clear hbf
    go_wp2_with fail
    go_ret
    have hm39 := put_mv HG5.out.2.1 HW6.out HG8.out.2.1 HW9.out (S := fun k => own' k ≠ 0) (fun k _ e => by rw [HK4.out.2.1.2.2.1 k e]; omega) (fun k _ e => by rw [HK4.out.2.2.1.2.2.1 k e]; omega) (by rw [HK4.out.2.2.2.2.1]; omega)
    have hsz3 : w.heap.size ≤ w3.heap.size := HMV.out.size
    have hsz6 : w3.heap.size ≤ w6.heap.size := by have h1 := HG5.out.2.1.size; have h2 := HW6.out; rw [sz1] at h1; rw [h2]; simp; omega
    refine ⟨rfl, _, s2, ⟨_, _, _, _, _, HB9.out.later HBF.out⟩, (HD3.out.1.frame hm39 (fun e => e HL.out.2.2.2.1)).later HBF.out, (HD3.out.2.frame hm39 (fun e => e HL.out.2.2.2.2)).later HBF.out, fun k hk => ?_, (HMV.out.trans hm39 (fun k hk e => .inr (.inr (by rw [← HL.out.2.2.1 k hk]; exact e)))).later HBF.out⟩
    have hs := HL.out.2.2.1 k hk
    by_cases c1 : (Value.slice an2 (ms.length + 1) cn2).ownBlock = some k
    · rw [if_pos c1]
      rcases HG8.out.2.2 with e | e
      · rw [e] at c1
        rw [← hs, HK4.out.2.2.1.2.2.1 k c1]
      · rw [e] at c1
        simp only [Option.some.injEq] at c1
        omega
    · rw [if_neg c1]
      by_cases c2 : (Value.slice an (ls.length + 1) cn).ownBlock = some k
      · rw [if_pos c2]
        rcases HG5.out.2.2 with e | e
        · rw [e] at c2
          rw [← hs, HK4.out.2.1.2.2.1 k c2]
        · rw [e] at c2
          simp only [Option.some.injEq] at c2
          omega
      · rw [if_neg c2]
        exact hs
  · have JS := hide (HJS.out w3 _ _ HT.out.1 HT.out.2)
    go_wp2_with fail
    refine JS.out.mono ?_
    rintro e wf ⟨rfl, hbf⟩
    have HBF := hide hbf
    clear hbf
    go_wp2_with fail
    go_ret
    exact ⟨rfl, own', s2, ⟨_, _, _, _, _, HK4.out.later HBF.out⟩, HD3.out.1.later HBF.out, HD3.out.2.later HBF.out, HL.out.2.2.1, HMV.out.later HBF.out⟩
end
end Go.Proofs.Ytihlhidpiehehaa
