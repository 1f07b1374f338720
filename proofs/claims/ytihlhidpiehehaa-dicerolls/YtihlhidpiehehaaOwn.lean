/-
  DiceRolls: owned.
-/
import Derived.Test.YtihlhidpiehehaaOwM
namespace Go.Proofs.Ytihlhidpiehehaa
open Go.RowKit
set_option maxRecDepth 100000
/-- What was grown: each order with its owner's number, 64 times more. -/
def Gr (w : World) (b : Nat) (v5 : Value) (gs : List Value) (i : Nat) (ln : Nat → Nat) : Prop :=
  gs.length = i ∧ w.ownsRow b 45 1 v5 i gs ∧ ∀ x (h : x < gs.length), w.ownsRow b 3 1 gs[x] (ln x + 64) (zc (List.replicate (ln x + 64) (-1 - (x : Int)))) ∧ ∀ k, gs[x].ownBlock = some k → ¬ v5.ownBlock = some k
section
variable {w w' : World} {b : Nat} {v5 v5' v7 : Value} {gs : List Value} {i : Nat} {ln : Nat → Nat}
theorem Gr.later (h : Gr w b v5 gs i ln) (hb : Below w.heap.size w w') : Gr w' b v5 gs i ln := ⟨h.1, own_later h.2.1 hb, fun x hx => ⟨own_later (h.2.2 x hx).1 hb, (h.2.2 x hx).2⟩⟩
theorem Gr.add (h : Gr w b v5 gs i ln) (h7 : w.ownsRow b 3 1 v7 (ln i + 64) (zc (List.replicate (ln i + 64) (-1 - (i : Int))))) (hn : ∀ k, v7.ownBlock = some k → ¬ v5.ownBlock = some k) (ho : w'.ownsRow b 45 1 v5' (i + 1) (gs ++ [v7])) (hg : w.grownBy w' v5.ownBlock) (hv : v5'.ownBlock = v5.ownBlock ∨ v5'.ownBlock = some w.heap.size) : Gr w' b v5' (gs ++ [v7]) (i + 1) ln := by
  obtain ⟨h1, h2, h3⟩ := h
  have keep : ∀ (x : Value) (m : Nat) (l : List Value), w.ownsRow b 3 1 x m l → (∀ k, x.ownBlock = some k → ¬ v5.ownBlock = some k) → w'.ownsRow b 3 1 x m l ∧ ∀ k, x.ownBlock = some k → ¬ v5'.ownBlock = some k := fun x m l hx hne => by
    refine ⟨own_kept hx hg (fun k e => hne k e), fun k e e' => ?_⟩
    rcases hv with hv | hv
    · rw [hv] at e'
      exact hne k e e'
    · rw [hv] at e'
      have := (hx.lt k e).2
      simp only [Option.some.injEq] at e'
      omega
  refine ⟨by simp [h1], ho, fun x hx => ?_⟩
  by_cases c : x < gs.length
  · rw [List.getElem_append_left c]
    exact keep _ _ _ (h3 x c).1 (h3 x c).2
  · have hx' : x = i := by simp at hx; omega
    subst hx'
    rw [List.getElem_append_right (by omega)]
    have := keep v7 _ _ h7 hn
    simpa [h1] using this
end
theorem rep_more (m : Nat) (z : Int) : zc (List.replicate m z) ++ [.int .i64 z] = zc (List.replicate (m + 1) z) := by
  rw [List.replicate_succ', zc_append]
  rfl
set_option maxHeartbeats 8000000 in
theorem owned_any {w : World} {B : Nat} {own : Nat → Nat} {kb : Nat} (h : Bo w B own kb) : Calls Try.prog 14 #[.pointer (some ⟨kb, 0, none⟩)] w fun e w' => e = .returned (.bool true) ∧ Mv w w' (fun k => own k ≠ 0) := by
  obtain ⟨vl, vw, ls, ms, ρ, hk⟩ := h
  have hq0 : Oq w own kb vl vw ls ρ := ⟨hk.1, hk.2.1, hk.2.2.2.2.1, hk.2.2.2.2.2.2.1⟩
  have hρ : ∀ i, (ρ i).length ≤ 1000 := hk.2.2.2.2.2.2.2
  obtain ⟨al, cl, rfl⟩ := own_len hq0.2.1.1
  have h40 := hq0.2.2.2
  have HQ0 := hide hq0
  have HR := hide hρ
  clear hk hq0 hρ
  obtain ⟨n, hn⟩ : ∃ n, n = ls.length := ⟨_, rfl⟩
  have HN := hide hn
  rw [← hn] at h40 HQ0
  clear hn
  go_enter Try.func14, Try.ntmps14
  go_wp2_with fail
  go_loopg [3, 4] n (fun k v3 _ wr => ∃ i : Nat, k = n - i ∧ i ≤ n ∧ v3 = .int .i64 (i : Int) ∧ Hid (Oq wr own kb (.slice al n cl) vw ls (rowA ρ i 0)) ∧ Hid (Mv w wr (fun k => own k ≠ 0)))
  case atStart => exact ⟨0, rfl, by omega, rfl, HQ0.out.congr (fun i _ => (rowA_zero ρ i).symm), Mv.refl _ _⟩
  case round =>
    obtain ⟨i, hk, hi, rfl, HQ, HW⟩ := hrel
    have c0 := HQ.out.cell
    by_cases hlt : i < n
    · have hlt' : (i : Int) < (n : Int) := by omega
      obtain ⟨L, hL⟩ : ∃ L, L = (ρ i).length := ⟨_, rfl⟩
      have HL := hide hL
      have hL1 : L ≤ 1000 := by rw [hL]; exact HR.out i
      clear hL
      obtain ⟨wi, hwi⟩ : ∃ W, W = wr := ⟨_, rfl⟩
      subst hwi
      go_wp2_with fail
      go_loopg [4] L (fun q v4 wr => ∃ j : Nat, q = L - j ∧ j ≤ L ∧ v4 = .int .i64 (j : Int) ∧ Hid (Oq wr own kb (.slice al n cl) vw ls (rowA ρ i j)) ∧ Hid (Mv w wr (fun k => own k ≠ 0)))
      case atStart => exact ⟨0, rfl, by omega, rfl, HQ, HW⟩
      case round =>
        clear HQ HW c0
        obtain ⟨j, hq, hj, rfl, HQ, HW⟩ := hrel
        have c0 := HQ.out.cell
        have hil : i < ls.length := by have := HN.out; omega
        obtain ⟨g, c, e1, e2, e3, x0, t0⟩ := HQ.out.2.1.at i hil
        obtain ⟨ao, e4, hao⟩ := t0.form
        have hrl : (rowA ρ i j i).length = L := by rw [(rowA_at ρ i j (by have := HL.out; omega)).2]; exact HL.out.symm
        rw [hrl] at e4
        obtain ⟨rfl, rfl⟩ : al = some ⟨g, 0, none⟩ ∧ cl = c := by
          simp only [Value.slice.injEq] at e1
          exact ⟨e1.1, e1.2.2⟩
        rw [e4] at x0
        rw [← HN.out] at e2
        by_cases hjl : j < L
        · have hjl' : (j : Int) < (L : Int) := by omega
          obtain ⟨gi, rfl, hI⟩ := hao j (by omega)
          have f0 := hI.frozen j
          have y0 := hI.cellD j (by omega)
          have HS := hide (HQ.out.set i j gi hil (-1 - (i : Int)) (by rw [e4]; rfl) hI (by omega) (by rw [hrl]; exact e4))
          have HGI : Hid (own gi = 10 + i) := HQ.out.2.1.2.2.2 i hil gi (by rw [e4]; rfl)
          clear t0 hI e4 e1 hao hrl
          go_wp2_with fail
          go_roundg (L - (j + 1))
          case measure => omega
          case rel => exact ⟨j + 1, rfl, hjl, by simp, HS.out.congr (fun x _ => rowA_set ρ i j (by have := HL.out; omega) x), HW.out.set (by rw [HGI.out]; omega) _ _⟩
        · obtain rfl : j = L := by omega
          clear t0 e4 e1 hao hrl
          go_wp2_with fail
          go_roundg (n - (i + 1))
          case measure => omega
          case rel => exact ⟨i + 1, rfl, hlt, by simp, HQ.out.congr (fun x _ => by rw [HL.out]; exact rowA_next ρ i x), HW⟩
    · obtain rfl : n = i := by omega
      obtain ⟨wB, hwB⟩ : ∃ W, W = wr := ⟨_, rfl⟩
      subst hwB
      obtain ⟨i0, hi0, hz0, hz1, hz2⟩ := info_parts info3
      obtain ⟨i5, hi5, hy0, hy1, hy2⟩ := info_parts info45
      clear hlt hk hi
      go_wp2_with fail
      go_loopg [5, 6] n (fun k v5 v6 wr => ∃ (i : Nat) (gs : List Value), k = n - i ∧ i ≤ n ∧ v6 = .int .i64 (i : Int) ∧ Hid (Gr wr wB.heap.size v5 gs i (fun x => (ρ x).length)) ∧ Hid (Below wB.heap.size wB wr))
      case atStart => exact ⟨0, [], rfl, by omega, rfl, ⟨rfl, World.ownsRow_nil _ _ _ _, fun x hx => absurd hx (by simp)⟩, Below.refl _ _⟩
      case round =>
        clear c0
        obtain ⟨i, gs, hk, hi, rfl, HG, HB⟩ := hrel
        have HQ2 := hide (HQ.out.later HB.out)
        have c0 := HQ2.out.cell
        obtain ⟨a5, c5, hv5⟩ := own_len HG.out.2.1
        subst hv5
        by_cases hlt : i < n
        · have hlt' : (i : Int) < (n : Int) := by omega
          have hil : i < ls.length := by have := HN.out; omega
          obtain ⟨g, c, e1, e2, e3, x0, t0⟩ := HQ2.out.2.1.at i hil
          obtain ⟨L, hL⟩ : ∃ L, L = (ρ i).length := ⟨_, rfl⟩
          have hra : rowA ρ n 0 i = List.replicate L (-1 - (i : Int)) := by unfold rowA; rw [if_pos hlt, hL]
          have hL1 : L ≤ 1000 := by rw [hL]; exact HR.out i
          rw [hra] at t0
          obtain ⟨ao, e4, hao⟩ := t0.form
          rw [List.length_replicate] at e4
          obtain ⟨rfl, rfl⟩ : al = some ⟨g, 0, none⟩ ∧ cl = c := by
            simp only [Value.slice.injEq] at e1
            exact ⟨e1.1, e1.2.2⟩
          rw [e4] at x0 t0
          rw [← HN.out] at e2
          have HT := hide t0
          have HL := hide hL
          clear t0 hL e1 e4 hao hra
          obtain ⟨wi, hwi⟩ : ∃ W, W = wr := ⟨_, rfl⟩
          subst hwi
          go_wp2_with fail
          go_loopg [7, 8] 64 (fun q v7 v8 wr => ∃ j : Nat, q = 64 - j ∧ j ≤ 64 ∧ v8 = .int .i64 (j : Int) ∧ Hid ((j = 0 ∧ v7 = .slice ao L L ∧ wr = wi) ∨ (1 ≤ j ∧ wr.ownsRow wi.heap.size 3 1 v7 (L + j) (zc (List.replicate (L + j) (-1 - (i : Int)))))) ∧ Hid (Below wi.heap.size wi wr))
          case atStart => exact ⟨0, rfl, by omega, rfl, .inl ⟨rfl, rfl, rfl⟩, Below.refl _ _⟩
          case round =>
            obtain ⟨j, hq, hj, rfl, HV, HW2⟩ := hrel
            by_cases hjl : j < 64
            · have hjl' : (j : Int) < 64 := by omega
              rcases HV.out with ⟨rfl, rfl, rfl⟩ | ⟨h1j, ho7⟩
              · have HT2 := hide (HT.out.later (below_alloc wr (.cells #[.int .i64 (-1 - (i : Int))] 3)))
                go_wp2_with (at_builtin; refine wpList_append_tight rfl _ _ rfl HT2.out ?g1 (-1 - (i : Int)) ⟨wr.heap.size, 0, none⟩ ?g2 rfl rfl ?_)
                case g1 => (try simp only [List.length_replicate]); omega
                intro v' w' ho hb
                have HO := hide ho
                have HB' := hide hb
                clear ho hb
                go_wp2_with fail
                go_roundg (64 - 1)
                case measure => omega
                case rel => exact ⟨1, rfl, by omega, by simp, .inr ⟨by omega, by
                  have := HO.out
                  rw [zc_append] at this
                  have h2 := rep_more L (-1 - (i : Int))
                  have h3 : zc (List.replicate L (-1 - (i : Int))) ++ zc [-1 - (i : Int)] = zc (List.replicate (L + 1) (-1 - (i : Int))) := h2
                  rw [h3] at this
                  exact own_lower this (by omega)⟩, (below_alloc wr _).trans (HB'.out.mono (by omega))⟩
              · obtain ⟨a7, c7, hv7⟩ := own_len ho7
                subst hv7
                have HO7 := hide (own_later ho7 (below_alloc wr (.cells #[.int .i64 (-1 - (i : Int))] 3)))
                have hsz := HW2.out.size
                clear ho7 HV
                go_wp2_with (at_builtin; refine wpList_append_own_at _ rfl _ _ 45 rfl wi.heap.size 3 i0 (.int .i64 0) 1 8 Try.underlying45 hi0 hz0 hz1 hz2 rfl (by decide) _ (L + j) _ rfl HO7.out ⟨wr.heap.size, 0, none⟩ 1 1 [.int .i64 (-1 - (i : Int))] rfl rfl (cell_one_new _ _ _) ?f2 ?f3 ?f4 ?f5 ?_)
                case f2 => intro x hx; simp at hx; subst hx; rfl
                case f3 => unfold maxLen; omega
                case f4 => omega
                case f5 => simp; omega
                intro v' w' ho hg _ _
                have HO := hide ho
                have HB' := hide ((HW2.out.alloc hsz _).grown hg (by simp; omega) (fun k e => (HO7.out.lt k e).1))
                clear ho hg
                go_wp2_with fail
                go_roundg (64 - (j + 1))
                case measure => omega
                case rel => exact ⟨j + 1, rfl, hjl, by simp, .inr ⟨by omega, by
                  have := HO.out
                  rw [rep_more] at this
                  exact this⟩, HB'⟩
            · obtain rfl : j = 64 := by omega
              obtain ⟨h1j, ho7⟩ : 1 ≤ 64 ∧ wr.ownsRow wi.heap.size 3 1 u7 (L + 64) (zc (List.replicate (L + 64) (-1 - (i : Int)))) := by
                rcases HV.out with ⟨h, -, -⟩ | h
                · exact absurd h (by omega)
                · exact h
              obtain ⟨a7, c7, hv7⟩ := own_len ho7
              subst hv7
              have HBW := hide (below_on HW2.out (below_alloc wr (.cells #[.slice a7 (L + 64) c7] 45)))
              have HG2 := hide (HG.out.later HBW.out)
              have HO7 := hide (own_later ho7 (below_alloc wr (.cells #[.slice a7 (L + 64) c7] 45)))
              have hsB := HB.out.size
              have hsW := HW2.out.size
              have HN7 : Hid (∀ k, (Value.slice a7 (L + 64) c7).ownBlock = some k → ¬ (Value.slice a5 i c5).ownBlock = some k) := fun k e e' => by
                have h1 := (ho7.lt k e).1
                have h2 := (HG.out.2.1.lt k e').2
                omega
              clear ho7 HV h1j
              go_wp2_with (at_builtin; refine wpList_append_own_at _ rfl _ _ 34 rfl wB.heap.size 45 i5 (.slice none 0 0) 1 24 Try.underlying34 hi5 hy0 hy1 hy2 rfl (by decide) _ i gs rfl HG2.out.2.1 ⟨wr.heap.size, 0, none⟩ 1 1 [.slice a7 (L + 64) c7] rfl rfl (cell_one_new _ _ _) ?f2 ?f3 ?f4 ?f5 ?_)
              case f2 => intro x hx; simp at hx; subst hx; rfl
              case f3 => unfold maxLen; omega
              case f4 => omega
              case f5 => simp; omega
              intro v' w' ho hg _ hv
              obtain ⟨a5', c5', rfl⟩ := own_len ho
              have HGN := hide (HG2.out.add (by rw [← HL.out]; exact own_lower HO7.out (by omega)) HN7.out ho hg (by rw [sz1]; exact hv))
              have HBN := hide (((HB.out.trans (HW2.out.mono hsB)).trans ((below_alloc wr (.cells #[.slice a7 (L + 64) c7] 45)).mono (by omega))).grown hg (by simp; omega) (fun k e => (HG2.out.2.1.lt k e).1))
              clear ho hg hv
              go_wp2_with fail
              go_roundg (n - (i + 1))
              case measure => omega
              case rel => exact ⟨i + 1, _, rfl, hlt, by simp, HGN, HBN⟩
        · obtain rfl : n = i := by omega
          obtain ⟨wC, hwC⟩ : ∃ W, W = wr := ⟨_, rfl⟩
          subst hwC
          clear hlt hk hi
          go_wp2_with fail
          go_loopg [9] n (fun k v9 wr => ∃ i : Nat, k = n - i ∧ i ≤ n ∧ v9 = .int .i64 (i : Int) ∧ wr = wC)
          case atStart => exact ⟨0, rfl, by omega, rfl, rfl⟩
          case round =>
            obtain ⟨i, hk, hi, rfl, rfl⟩ := hrel
            by_cases hlt : i < n
            · have hlt' : (i : Int) < (n : Int) := by omega
              have hil : i < ls.length := by have := HN.out; omega
              obtain ⟨g, c, e1, e2, e3, x0, t0⟩ := HQ2.out.2.1.at i hil
              obtain ⟨L, hL⟩ : ∃ L, L = (ρ i).length := ⟨_, rfl⟩
              have hra : rowA ρ n 0 i = List.replicate L (-1 - (i : Int)) := by unfold rowA; rw [if_pos hlt, hL]
              have hL1 : L ≤ 1000 := by rw [hL]; exact HR.out i
              rw [hra] at t0
              obtain ⟨ao, e4, hao⟩ := t0.form
              rw [List.length_replicate] at e4 hao
              obtain ⟨rfl, rfl⟩ : al = some ⟨g, 0, none⟩ ∧ cl = c := by
                simp only [Value.slice.injEq] at e1
                exact ⟨e1.1, e1.2.2⟩
              rw [e4] at x0
              rw [← HN.out] at e2
              obtain ⟨g5, c5', e5, e6, e7⟩ := own_form HG.out.2.1 (by omega)
              obtain ⟨rfl, rfl⟩ : a5 = some ⟨g5, 0, none⟩ ∧ c5 = c5' := by
                simp only [Value.slice.injEq] at e5
                exact ⟨e5.1, e5.2.2⟩
              have hgi : i < gs.length := by rw [HG.out.1]; exact hlt
              have y0 : wr.cell? ⟨g5, i, none⟩ = some gs[i] := by rw [HG.out.2.1.cellAt i (by omega), List.getElem?_eq_getElem hgi]
              have hog := (HG.out.2.2 i hgi).1
              dsimp only at hog
              rw [← hL] at hog
              obtain ⟨gg, cg, e8, e9, e10⟩ := own_form hog (by omega)
              rw [e8] at y0 hog
              have HOG := hide hog
              have HAO := hide hao
              clear hog e8 e5 e1 e4 t0 hL hra hao
              obtain ⟨wD, hwD⟩ : ∃ W, W = wr := ⟨_, rfl⟩
              subst hwD
              go_wp2_with fail
              go_loopg [10] (L + 64) (fun q v10 wr' => ∃ j : Nat, q = L + 64 - j ∧ j ≤ L + 64 ∧ v10 = .int .i64 (j : Int) ∧ wr' = wD)
              case atStart => exact ⟨0, rfl, by omega, rfl, rfl⟩
              case round =>
                obtain ⟨j, hq, hj, rfl, rfl⟩ := hrel
                by_cases hjl : j < L + 64
                · have hjl' : (j : Int) < ((L + 64 : Nat) : Int) := by omega
                  have hjl2 : (j : Int) < (L : Int) + 64 := by omega
                  have z0 : wr.cell? ⟨gg, j, none⟩ = some (.int .i64 (-1 - (i : Int))) := by
                    have := own_num HOG.out j (by simp; exact hjl)
                    rw [this, List.getElem_replicate]
                  by_cases hj2 : j < L
                  · have hj2' : (j : Int) < (L : Int) := by omega
                    obtain ⟨gi, rfl, hI⟩ := HAO.out j hj2
                    have z1 : wr.cell? ⟨gi, j, none⟩ = some (.int .i64 (-1 - (i : Int))) := by rw [hI.cell j (by simp; exact hj2), List.getElem_replicate]
                    clear hI
                    go_wp2_with fail
                    go_roundg (L + 64 - (j + 1))
                    case measure => omega
                    case rel => exact ⟨j + 1, rfl, hjl, by simp, rfl⟩
                  · have hj2' : ¬ (j : Int) < (L : Int) := by omega
                    go_wp2_with fail
                    go_roundg (L + 64 - (j + 1))
                    case measure => omega
                    case rel => exact ⟨j + 1, rfl, hjl, by simp, rfl⟩
                · obtain rfl : j = L + 64 := by omega
                  go_wp2_with fail
                  go_roundg (n - (i + 1))
                  case measure => omega
                  case rel => exact ⟨i + 1, rfl, hlt, by simp, rfl⟩
            · obtain rfl : i = n := by omega
              go_wp2_with fail
              go_ret
              exact ⟨rfl, HW.out.later HB.out⟩
end Go.Proofs.Ytihlhidpiehehaa
