import Derived.Test.YtafmiolehlagkaaGreatSt09
import Derived.Test.YtafmiolehlagkaaGreatRows
import Derived.ProofKit
import Derived.OpenShut
import Derived.ShutString
import Derived.ChangeOld
import Derived.SizedLaws
import Derived.JoinedCond
import Derived.Deep.CondSized
/-
  World: WorldStale's walk.
-/
namespace Go.Proofs.YtafmiolehlagkaaGreat
open Go.RowKit
set_option maxRecDepth 100000
theorem info4 : (Tryz.prog.info? 4).map (fun i => (i.zero, i.size, i.bytes)) = some (some (.bool false), 1, 1) := by kernel_rfl
abbrev Dd := Int × Int × Int × Int
/-- Deeds that came in. -/
def De (w : World) (v : Value) (ds : List Dd) : Prop :=
  ∃ ao c, v = .slice ao ds.length c ∧ ds.length ≤ c ∧ c ≤ maxLen ∧ ∀ i (hi : i < ds.length), ∃ g o, ao = some ⟨g, o, none⟩ ∧ w.cell? ⟨g, o + i * 4, none⟩ = some (.int .i64 ds[i].1) ∧ w.cell? ⟨g, o + i * 4 + 1, none⟩ = some (.int .i64 ds[i].2.1) ∧ w.cell? ⟨g, o + i * 4 + 2, none⟩ = some (.int .i64 ds[i].2.2.1) ∧ w.cell? ⟨g, o + i * 4 + 3, none⟩ = some (.int .i64 ds[i].2.2.2)
def Bd (x : Int) : Prop := -9223372036854775808 ≤ x ∧ x ≤ 9223372036854775807
def DdOk (d : Dd) : Prop := Bd d.1 ∧ Bd d.2.1 ∧ Bd d.2.2.1 ∧ Bd d.2.2.2
/-- What is asked of one at the end. -/
theorem Sx.asks {w W W' : World} {own : Nat → Nat} {gw t : Nat} {v6 v7 : Value} {gs fr : List Nat} {C : Co} {all : List (Nat × Nat)} {onl : List Bool} (h : Sx w gw t W own v6 v7 gs fr C all onl all onl) (hb : Below W.heap.size W W') (ht : t ≤ 300) (k : Nat) (k1 : k < all.length) (k2 : k < onl.length) :
    (Calls Tryz.prog 32 #[.pointer (some ⟨gw, 0, none⟩), .agg #[.int .i64 (all[k].1 : Int), .int .i64 (all[k].2 : Int)]] W' fun e w' => e = .returned (.bool onl[k]) ∧ Below W'.heap.size W' w') ∧
    (Calls Tryz.prog 33 #[.pointer (some ⟨gw, 0, none⟩), .agg #[.int .i64 (all[k].1 : Int), .int .i64 (all[k].2 : Int)]] W' fun e w' => (∃ x y a n c, e = .returned (.tuple #[.agg #[.int .i64 x, .int .i64 y, .slice a n c], .int .i64 (if onl[k] then 0 else 41)])) ∧ Below W'.heap.size W' w') ∧
    (Calls Tryz.prog 34 #[.pointer (some ⟨gw, 0, none⟩), .agg #[.int .i64 (all[k].1 : Int), .int .i64 (all[k].2 : Int)], .int .i64 9] W' fun e w' => e = .returned (.tuple #[.agg #[.int .i64 0, .slice none 0 0], .int .i64 (if onl[k] then 60 else 41)]) ∧ Below W'.heap.size W' w') ∧
    (Calls Tryz.prog 35 #[.pointer (some ⟨gw, 0, none⟩), .agg #[.int .i64 (all[k].1 : Int), .int .i64 (all[k].2 : Int)], .agg #[.int .i64 9, .slice none 0 0]] W' fun e w' => e = .returned (.int .i64 (if onl[k] then 60 else 41)) ∧ Below W'.heap.size W' w') ∧
    (Calls Tryz.prog 26 #[.pointer (some ⟨gw, 0, none⟩), .agg #[.int .i64 (all[k].1 : Int), .int .i64 (all[k].2 : Int)], .int .i64 9] W' fun e w' => e = .returned (.int .i64 (if onl[k] then 60 else 41)) ∧ Below W'.heap.size W' w') ∧
    Calls Tryz.prog 27 #[.pointer (some ⟨gw, 0, none⟩), .agg #[.int .i64 (all[k].1 : Int), .int .i64 (all[k].2 : Int)], .agg #[.int .i64 9, .slice none 0 0]] W' fun e w' => e = .returned (.int .i64 (if onl[k] then 60 else 41)) ∧ Below W'.heap.size W' w' := by
  have h2 := h.later hb
  have hlv : (C ((all[k].1 : Int), (all[k].2 : Int))).isSome = onl[k] := by
    obtain ⟨vk, gp, gm, gt, q, T, _, _, _, _, h5, _⟩ := h.1
    rw [← h5]
    exact h.2.1.2.2.2.2.2.1 k k1 k2
  have hib : InB ((all[k].1 : Int), (all[k].2 : Int)) := by
    have h3 := h.2.1.2.2.2.1 _ (List.getElem_mem k1)
    have h4 := h.1.ok.2.2.1
    have h5 : gs.getD all[k].1 0 ≤ t := by
      rw [List.getD_eq_getElem?_getD, List.getElem?_eq_getElem h3.1]
      exact h.2.1.2.2.1 _ (List.getElem_mem _)
    refine ⟨⟨?_, ?_⟩, ?_, ?_⟩ <;> dsimp only <;> omega
  have e0 : ∀ z, liveE C (all[k].1 : Int) (all[k].2 : Int) z = if onl[k] then z else 41 := fun z => by
    unfold liveE
    rw [hlv]
  obtain ⟨q1, q2, q3, q4⟩ := h2.1.errs _ _ 9 hib (by decide)
  have r1 := h2.1.lives (all[k].1 : Int) (all[k].2 : Int)
  have r2 := h2.1.row (all[k].1 : Int) (all[k].2 : Int)
  rw [hlv] at r1
  rw [e0] at r2 q1 q3
  refine ⟨r1, r2, q1, ?_, q3, ?_⟩
  · have := q2 none 0 0
    rwa [e0] at this
  · have := q4 none 0 0
    rwa [e0] at this
set_option maxHeartbeats 40000000 in
theorem stale_walk (va : Value) (ds : List Dd) (w : World) (ha : De w va ds) (hfit : ∀ d ∈ ds, DdOk d) : Calls Tryz.prog 8 #[va] w fun e w' => e = .returned (.bool true) ∧ Below w.heap.size w w' := by
  obtain ⟨i29, hi29, hy0, hy1, hy2⟩ := info_parts info32
  obtain ⟨i4, hi4, hx0, hx1, hx2⟩ := info_parts info4
  obtain ⟨ao, ca, rfl, hc1, hc2, hc3⟩ := ha
  have hbig : ca ≤ 9223372036854775807 := by unfold maxLen at hc2; omega
  have HA : Hid (∀ i (hi : i < ds.length), ∃ g o, ao = some ⟨g, o, none⟩ ∧ ∀ W, Below w.heap.size w W → W.cell? ⟨g, o + i * 4, none⟩ = some (.int .i64 ds[i].1) ∧ W.cell? ⟨g, o + i * 4 + 1, none⟩ = some (.int .i64 ds[i].2.1) ∧ W.cell? ⟨g, o + i * 4 + 2, none⟩ = some (.int .i64 ds[i].2.2.1) ∧ W.cell? ⟨g, o + i * 4 + 3, none⟩ = some (.int .i64 ds[i].2.2.2)) := fun i hi => by
    obtain ⟨g, o, e, k1, k2, k3, k4⟩ := hc3 i hi
    have key : ∀ (W : World), Below w.heap.size w W → ∀ (p : Addr) (x : Value), w.cell? p = some x → W.cell? p = some x := fun W hW p x hx => (hW.cell (p := p) (World.block_lt_of_cell? w _ hx)).trans hx
    exact ⟨g, o, e, fun W hW => ⟨key W hW _ _ k1, key W hW _ _ k2, key W hW _ _ k3, key W hW _ _ k4⟩⟩
  have HF := hide hfit
  clear hc3 hc2 hfit
  go_enter Tryz.func8, Tryz.ntmps8
  go_wp2_with fail
  refine (shown_any w).mono ?_
  rintro e w1 ⟨rfl, hb1⟩
  have HB1 := hide hb1
  clear hb1
  go_wp2_with fail
  refine (usual_any w1).mono ?_
  rintro e w2 ⟨v, rfl, hk, hb2⟩
  have J1 := hide (wn_new (hk w2 (Below.refl _ _)) usual_may)
  have HB2 := hide (below_on HB1.out hb2)
  obtain ⟨av, cv, rfl, -⟩ := hk w2 (Below.refl _ _)
  clear hk hb2
  go_wp2_with fail
  refine J1.out.mono ?_
  rintro e w3 ⟨gw, rfl, ⟨own, ho, hW⟩, hb3⟩
  have H0 : Hid (∃ own gs fr C, Sx w gw 0 w3 own (.slice none 0 0) (.slice none 0 0) gs fr C [] [] [] []) := ⟨own, [], [], _, hW, Sl.start, World.ownsRow_nil _ _ _ _, World.ownsRow_nil _ _ _ _, fun k e => by simp [Value.ownBlock] at e, fun k e => by simp [Value.ownBlock] at e, below_on HB2.out hb3, fun k hk => ho k (Nat.lt_of_lt_of_le hk HB2.out.size)⟩
  clear J1 hW ho hb3 HB1 HB2
  go_upto_block 0 with fail
  go_cut [6, 7, 8] (fun v6 v7 v8 W => ∃ (t : Nat) (all : List (Nat × Nat)) (onl : List Bool) (a6 : Option Addr) (c6 : Nat) (a7 : Option Addr) (c7 : Nat), t ≤ 300 ∧ v6 = .slice a6 all.length c6 ∧ v7 = .slice a7 onl.length c7 ∧ v8 = .int .i64 (cntB onl : Int) ∧ Hid (∃ own gs fr C, Sx w gw t W own (.slice a6 all.length c6) (.slice a7 onl.length c7) gs fr C all onl all onl))
  case first =>
    go_wp2_with fail
    go_loopw [6, 7, 8, 9] (fun v6 v7 v8 v9 W => ∃ (i : Nat) (all : List (Nat × Nat)) (onl : List Bool) (a6 : Option Addr) (c6 : Nat) (a7 : Option Addr) (c7 : Nat), i ≤ 300 ∧ i ≤ ds.length ∧ v9 = .int .i64 (i : Int) ∧ v6 = .slice a6 all.length c6 ∧ v7 = .slice a7 onl.length c7 ∧ v8 = .int .i64 (cntB onl : Int) ∧ Hid (∃ own gs fr C, Sx w gw i W own (.slice a6 all.length c6) (.slice a7 onl.length c7) gs fr C all onl all onl)) (fun _ _ _ v9 _ => ds.length - (intOf v9).toNat)
    case atStart => exact ⟨0, [], [], none, 0, none, 0, by omega, Nat.zero_le _, rfl, rfl, rfl, rfl, H0⟩
    case round =>
      obtain ⟨i, all, onl, a6, c6, a7, c7, hi3, hid, rfl, rfl, rfl, rfl, HS⟩ := hrel
      clear H0
      obtain ⟨hcap6, hcap7, hal, hol⟩ : (all.length ≤ c6 ∧ c6 ≤ 9223372036854775807) ∧ (onl.length ≤ c7 ∧ c7 ≤ 9223372036854775807) ∧ all.length ≤ i ∧ onl.length = all.length := by
        obtain ⟨own, gs, fr, C, h⟩ := HS.out
        exact ⟨own_cap h.2.2.1, own_cap h.2.2.2.1, h.2.1.2.1, h.2.1.1.symm⟩
      have hcn : cntB onl ≤ 300 := by
        have : cntB onl ≤ onl.length := List.length_filter_le _ _
        omega
      have HOL := hide hol
      clear hol
      by_cases hlt : i < ds.length
      · have t1 : (i : Int) < (ds.length : Int) := by omega
        by_cases h3 : i < 300
        · have t2 : (i : Int) < 300 := by omega
          obtain ⟨g, o, rfl, hcells⟩ := HA.out i hlt
          have hB : Below w.heap.size w wr := by
            obtain ⟨own, gs, fr, C, h⟩ := HS.out
            exact h.2.2.2.2.2.2.1
          have hdk := HF.out _ (List.getElem_mem hlt)
          obtain ⟨d0, d1, d2, d3⟩ := hcells wr hB
          generalize ds[i] = d at *
          obtain ⟨dk, dw, dx, dv⟩ := d
          dsimp only at d0 d1 d2 d3
          obtain ⟨⟨b01, b02⟩, ⟨b11, b12⟩, ⟨b21, b22⟩, -⟩ := hdk
          dsimp only at b01 b02 b11 b12 b21 b22
          obtain ⟨wd, hwd⟩ : ∃ X, X = wr.alloc (.cells #[.int .i64 dk, .int .i64 dw, .int .i64 dx, .int .i64 dv] 69) := ⟨_, rfl⟩
          have BD : Hid (Below wr.heap.size wr wd) := hwd ▸ below_alloc wr _
          have hxd : wd.heap[wr.heap.size]? = some (.cells #[.int .i64 dk, .int .i64 dw, .int .i64 dx, .int .i64 dv] 69 (0, 0)) := by rw [hwd]; exact heap_alloc_new wr _
          obtain ⟨kd, hkd⟩ : ∃ k, k = wr.heap.size := ⟨_, rfl⟩
          rw [← hkd] at hxd
          have x0 : wd.cell? ⟨kd, 0, none⟩ = some (.int .i64 dk) := by rw [cell_of_row wd kd _ _ 69 (0, 0) hxd]; rfl
          have x1 : wd.cell? ⟨kd, 1, none⟩ = some (.int .i64 dw) := by rw [cell_of_row wd kd _ _ 69 (0, 0) hxd]; rfl
          have x2 : wd.cell? ⟨kd, 2, none⟩ = some (.int .i64 dx) := by rw [cell_of_row wd kd _ _ 69 (0, 0) hxd]; rfl
          have x3 : wd.cell? ⟨kd, 3, none⟩ = some (.int .i64 dv) := by rw [cell_of_row wd kd _ _ 69 (0, 0) hxd]; rfl
          clear hxd hcells hB
          go_upto_region 12 with fail
          rw [← hwd, ← hkd]
          clear d0 d1 d2 d3 hwd hkd
          go_cut [64] (fun v64 W => ∃ bb : Bool, v64 = .bool bb ∧ (bb = false → 0 < all.length) ∧ Hid (W = wd))
          case first =>
            have JP := hide (pick_any dk 3 wd b01 b02 (by omega) (by omega))
            generalize pk dk 3 = kk at *
            clear x1 x2 x3
            go_wp2_with fail
            refine JP.out.mono ?_
            rintro e w' ⟨rfl, rfl⟩
            clear JP
            by_cases hp : 0 < kk
            · have t5 : (kk : Int) > 0 := by omega
              go_wp2_with fail
              go_meet
              exact ⟨true, rfl, fun e => (by cases e), rfl⟩
            · have t5 : ¬ (kk : Int) > 0 := by omega
              by_cases h0 : all.length = 0
              · have t6 : ((all.length : Int) == 0) = true := by rw [beq_iff_eq]; omega
                clear h0
                go_wp2_with fail
                go_meet
                exact ⟨true, rfl, fun e => (by cases e), rfl⟩
              · have t6 : ((all.length : Int) == 0) = false := by rw [beq_eq_false_iff_ne]; omega
                have HP0 : Hid (0 < all.length) := by unfold Hid; omega
                clear h0
                go_wp2_with fail
                go_meet
                exact ⟨false, rfl, fun _ => HP0.out, rfl⟩
          obtain ⟨bb, rfl, hbb, HW2⟩ := hcut
          obtain rfl : wd = wc := HW2.out.symm
          clear HW2 x0
          cases bb with
          | true =>
            clear hbb x1
            have JPt := hide (part_any dx dv wd b21 b22)
            have hk4 : pk dx 4 < 4 := pk_lt dx (by omega)
            generalize pk dx 4 = kk at *
            go_wp2_with fail
            refine JPt.out.mono ?_
            rintro e w2 ⟨vp, rfl, ho2, hb2⟩
            obtain ⟨ap, np, cp, rfl⟩ := own_slice ho2
            obtain ⟨w4', hw4⟩ : ∃ X, X = w2.alloc (.cells #[.int .i64 ((kk : Int) + 1), .slice ap np cp] 32) := ⟨_, rfl⟩
            have JS : Hid (Calls Tryz.prog 24 #[.pointer (some ⟨gw, 0, none⟩), .slice (some ⟨w2.heap.size, 0, none⟩) 1 1] w4' fun e w' => Spawned w gw i (.slice a6 all.length c6) (.slice a7 onl.length c7) all onl e w') := by
              obtain ⟨own, gs, fr, C, h⟩ := HS.out
              exact h.spawn (by omega) (below_on BD.out hb2) kk hk4 dv ap np cp (own_lower ho2 BD.out.size) hw4
            clear ho2 hb2 JPt HS BD
            go_wp2_with fail
            rw [← hw4]
            refine JS.out.mono ?_
            rintro e w4 (⟨hc, p, rfl, hp, HX⟩ | ⟨hc, rfl, HX⟩)
            · obtain ⟨pa, pb⟩ := p
              have t7 : (cntB onl : Int) < 200 := by omega
              have t8 : IntKind.i64.wrap ((cntB onl : Int) + 1) = (cntB onl : Int) + 1 := by rw [IntKind.wrap_i64]; omega
              obtain ⟨w5, hw5⟩ : ∃ X, X = w4.alloc (.cells #[.int .i64 (pa : Int), .int .i64 (pb : Int)] 29) := ⟨_, rfl⟩
              have X5 : Hid (w5.heap[w4.heap.size]? = some (.cells #[.int .i64 (pa : Int), .int .i64 (pb : Int)] 29 (0, 0))) := by
                rw [hw5]
                exact heap_alloc_new w4 _
              have HX5 : Hid (∃ own gs fr C, Sx w gw (i + 1) w5 own (.slice a6 all.length c6) (.slice a7 onl.length c7) gs fr C all onl (all ++ [(pa, pb)]) (onl ++ [true])) := by
                obtain ⟨own, gs, fr, C, hX⟩ := HX.out
                exact ⟨_, gs, fr, C, hX.later (hw5 ▸ below_alloc w4 _)⟩
              obtain ⟨kx, hkx⟩ : ∃ k, k = w4.heap.size := ⟨_, rfl⟩
              rw [← hkx] at X5
              have HPN := hide hp
              clear HX JS hw4 hp hc
              dsimp only
              go_upto_block 2 with fail
              rw [← hw5, ← hkx]
              clear hw5 hkx
              go_wp2_with fail
              go_loopw [13] (fun v13 W => ∃ j : Nat, j ≤ all.length ∧ v13 = .int .i64 (j : Int) ∧ Hid (∃ own gs fr C, Sx w gw (i + 1) W own (.slice a6 all.length c6) (.slice a7 onl.length c7) gs fr C all onl (all ++ [(pa, pb)]) (onl ++ [true])) ∧ Hid (W.heap[kx]? = some (.cells #[.int .i64 (pa : Int), .int .i64 (pb : Int)] 29 (0, 0)))) (fun v13 _ => all.length - (intOf v13).toNat)
              case atStart => exact ⟨0, Nat.zero_le _, rfl, HX5, X5⟩
              case round =>
                obtain ⟨j, hjl, rfl, HJ, XJ⟩ := hrel
                clear HX5 X5
                obtain ⟨z1, z2⟩ := kx_cells XJ.out (Below.refl _ wr)
                by_cases hj : j < all.length
                · have tj : (j : Int) < (all.length : Int) := by omega
                  have tj0 : (0 : Int) ≤ (j : Int) := by omega
                  obtain ⟨own, gs, fr, C, h⟩ := HJ.out
                  obtain ⟨g6, c', e6, -, -⟩ := own_form h.2.2.1 (by omega)
                  simp only [Value.slice.injEq] at e6
                  obtain ⟨rfl, -, rfl⟩ := e6
                  obtain ⟨y1, y2⟩ := i_own_ent h.2.2.1 j hj
                  have hne : all[j] ≠ (pa, pb) := fun e => HPN.out (e ▸ List.getElem_mem hj)
                  have HN : Hid (∀ n, ∃ own gs fr C, Sx w gw (i + 1) (wr.drewN n) own (.slice (some ⟨g6, 0, none⟩) all.length c6) (.slice a7 onl.length c7) gs fr C all onl (all ++ [(pa, pb)]) (onl ++ [true])) := fun n => ⟨_, gs, fr, C, h.later (below_drawn wr n)⟩
                  generalize all[j] = q at *
                  obtain ⟨qa, qb⟩ := q
                  have HXN : Hid (∀ n, (wr.drewN n).heap[kx]? = some (.cells #[.int .i64 (pa : Int), .int .i64 (pb : Int)] 29 (0, 0))) := fun n => ((below_drawn wr n).block kx (lt_of_block XJ.out)).trans XJ.out
                  have hne2 : ¬ (qa = pa ∧ qb = pb) := fun e => hne (Prod.ext e.1 e.2)
                  dsimp only at y1 y2
                  clear h HJ XJ hne
                  by_cases hqa : qa = pa
                  · have hqb : ¬ qb = pb := fun h => hne2 ⟨hqa, h⟩
                    subst hqa
                    clear hne2
                    go_wp2_with fail
                    go_quiet (fail)
                    go_wp2_with fail
                    go_roundw
                    case rel => exact ⟨j + 1, by omega, by go_num, HN.out _, HXN.out _⟩
                    case measure => simp [intOf]; omega
                  · clear hne2
                    go_wp2_with fail
                    go_quiet (fail)
                    go_wp2_with fail
                    go_roundw
                    case rel => exact ⟨j + 1, by omega, by go_num, HN.out _, HXN.out _⟩
                    case measure => simp [intOf]; omega
                · obtain rfl : j = all.length := by omega
                  have tj : ¬ (all.length : Int) < (all.length : Int) := by omega
                  obtain ⟨own, gs, fr, C, h⟩ := HJ.out
                  have hL := h.later (below_alloc wr (.cells #[.int .i64 (pa : Int), .int .i64 (pb : Int)] 29))
                  have HO6 := hide hL.2.2.1
                  have HP6 : Hid (∀ (v9 : Value) (w9 : World), w9.ownsRow w.heap.size 29 2 v9 (all.length + 1) (ec all ++ [.int .i64 (pa : Int), .int .i64 (pb : Int)]) → (wr.alloc (.cells #[.int .i64 (pa : Int), .int .i64 (pb : Int)] 29)).grownBy w9 (Value.slice a6 all.length c6).ownBlock → (v9.ownBlock = (Value.slice a6 all.length c6).ownBlock ∨ v9.ownBlock = some (wr.heap.size + 1)) → ∃ own gs fr C, Sx w gw (i + 1) w9 own v9 (.slice a7 onl.length c7) gs fr C (all ++ [(pa, pb)]) onl (all ++ [(pa, pb)]) (onl ++ [true])) := fun v9 w9 k1 k2 k3 => ⟨_, gs, fr, C, hL.push6 k1 k2 (by simpa using k3)⟩
                  have HZ6 : Hid (w.heap.size ≤ wr.heap.size + 1) := by
                    have := hL.2.2.2.2.2.2.1.size
                    unfold Hid
                    simpa using this
                  clear h hL HJ XJ
                  go_wp2_with (at_builtin; refine wpList_append_own_at _ rfl _ _ 39 rfl w.heap.size 29 i29 (.agg #[.int .i64 0, .int .i64 0]) 2 16 Tryz.underlying39 hi29 hy0 hy1 hy2 rfl (by decide) _ all.length (ec all) rfl HO6.out ⟨wr.heap.size, 0, none⟩ 1 1 [.int .i64 (pa : Int), .int .i64 (pb : Int)] rfl rfl ?n1 ?n2 ?n3 ?n4 ?n5 ?_)
                  case n2 => first | exact ⟨rfl, rfl⟩ | (intro u hu; simp at hu; rcases hu with rfl | rfl <;> rfl)
                  case n3 => unfold maxLen; omega
                  case n4 => omega
                  case n5 => exact HZ6.out
                  intro v9 w9 ho9 hg9 _ ha9
                  have H9 := hide (HP6.out v9 w9 ho9 hg9 ha9)
                  obtain ⟨a9, c9, rfl⟩ := own_len ho9
                  clear ho9 hg9 ha9 HP6 HO6 HZ6 z1 z2
                  obtain ⟨own2, gs2, fr2, C2, h9⟩ := H9.out
                  have hL2 := h9.later (below_alloc w9 (.cells #[.bool true] 4))
                  have HO7 := hide hL2.2.2.2.1
                  have HP7 : Hid (∀ (v10 : Value) (w10 : World), w10.ownsRow w.heap.size 4 1 v10 (onl.length + 1) (bz onl ++ [.bool true]) → (w9.alloc (.cells #[.bool true] 4)).grownBy w10 (Value.slice a7 onl.length c7).ownBlock → (v10.ownBlock = (Value.slice a7 onl.length c7).ownBlock ∨ v10.ownBlock = some (w9.heap.size + 1)) → ∃ own gs fr C, Sx w gw (i + 1) w10 own (.slice a9 (all.length + 1) c9) v10 gs fr C (all ++ [(pa, pb)]) (onl ++ [true]) (all ++ [(pa, pb)]) (onl ++ [true])) := fun v10 w10 k1 k2 k3 => ⟨_, gs2, fr2, C2, hL2.push7 k1 k2 (by simpa using k3)⟩
                  have HZ7 : Hid (w.heap.size ≤ (w9.alloc (.cells #[.bool true] 4)).heap.size) := hL2.2.2.2.2.2.2.1.size
                  have hol2 : onl.length ≤ 300 := by have := HOL.out; omega
                  clear h9 hL2 H9
                  go_wp2_with (at_builtin; refine wpList_append_own_at _ rfl _ _ 83 rfl w.heap.size 4 i4 (.bool false) 1 1 Tryz.underlying83 hi4 hx0 hx1 hx2 rfl (by decide) _ onl.length (bz onl) rfl HO7.out ⟨w9.heap.size, 0, none⟩ 1 1 [.bool true] rfl rfl ?f1 ?f2 ?f3 ?f4 ?f5 ?_)
                  case f1 =>
                    intro j u hj
                    match j, hj with
                    | 0, hj => simp at hj; subst hj; simp [Addr.add]
                  case f2 =>
                    intro u hu
                    simp at hu
                    subst hu
                    rfl
                  case f3 => unfold maxLen; omega
                  case f4 => omega
                  case f5 => exact HZ7.out
                  intro v10 w10 ho10 hg10 _ ha10
                  have H10 := hide (HP7.out v10 w10 ho10 hg10 ha10)
                  obtain ⟨a10, c10, rfl⟩ := own_len ho10
                  clear ho10 hg10 ha10 HP7 HO7 HZ7
                  have HL6 : Hid ((all ++ [(pa, pb)]).length = all.length + 1) := by unfold Hid; simp
                  have HL7 : Hid ((onl ++ [true]).length = onl.length + 1) := by unfold Hid; simp
                  go_wp2_with fail
                  go_roundw
                  case rel => exact ⟨i + 1, all ++ [(pa, pb)], onl ++ [true], a9, c9, a10, c10, by omega, by omega, by go_num, by rw [HL6.out], by rw [HL7.out], by rw [cnt_push]; rfl, by rw [HL6.out, HL7.out]; exact H10⟩
                  case measure => simp [intOf]; omega
            · have t7 : ¬ (cntB onl : Int) < 200 := by omega
              obtain ⟨own, gs, fr, C, hX⟩ := HX.out
              have HXL : Hid (∃ own gs fr C, Sx w gw (i + 1) (w4.alloc (.cells #[.int .i64 0, .int .i64 0] 29)) own (.slice a6 all.length c6) (.slice a7 onl.length c7) gs fr C all onl all onl) := ⟨_, gs, fr, C, hX.later (below_alloc w4 _)⟩
              clear hX HX JS hw4 hc
              go_wp2_with fail
              go_roundw
              case rel => exact ⟨i + 1, all, onl, a6, c6, a7, c7, by omega, by omega, by go_num, rfl, rfl, rfl, HXL⟩
              case measure => simp [intOf]; omega
          | false =>
            have hpos := hbb rfl
            have JP := hide (pick_any dw all.length wd b11 b12 hpos (by omega))
            have hkl : pk dw all.length < all.length := pk_lt dw hpos
            generalize pk dw all.length = k at *
            have k2 : k < onl.length := by have := HOL.out; omega
            have tk : (k : Int) < (all.length : Int) := by omega
            have tk2 : (k : Int) < (onl.length : Int) := by omega
            have tk0 : (0 : Int) ≤ (k : Int) := by omega
            obtain ⟨own, gs, fr, C, h⟩ := HS.out
            have hD := h.later BD.out
            obtain ⟨g6, c', e6, -, -⟩ := own_form h.2.2.1 (by omega)
            simp only [Value.slice.injEq] at e6
            obtain ⟨rfl, -, rfl⟩ := e6
            obtain ⟨g7, c', e7, -, -⟩ := own_form h.2.2.2.1 (by omega)
            simp only [Value.slice.injEq] at e7
            obtain ⟨rfl, -, rfl⟩ := e7
            obtain ⟨y1, y2⟩ := i_own_ent hD.2.2.1 k hkl
            have JD := hide (hD.despawn (by omega) k hkl k2)
            have HLV : Hid (∀ lv, onl[k] = lv → (lv = true → cntB (onl.set k false) + 1 = cntB onl) ∧ (lv = false → onl.set k false = onl)) := fun lv e => ⟨fun e2 => cnt_set onl k k2 (e.trans e2), fun e2 => by
              refine List.ext_getElem (by simp) (fun j j1 j2 => ?_)
              by_cases c : k = j
              · subst c
                rw [List.getElem_set_self, e, e2]
              · rw [List.getElem_set_ne c]⟩
            obtain ⟨lv, hlv⟩ : ∃ lv, onl[k] = lv := ⟨_, rfl⟩
            have HL2 := hide (HLV.out lv hlv)
            have HLK : Hid ((bz onl)[k]? = some (.bool lv)) := by unfold Hid; rw [bz_at onl k k2, hlv]
            rw [hlv] at JD
            clear HLV hlv h hD HS BD hbb x2 x3 hpos
            generalize all[k] = p at *
            obtain ⟨pa, pb⟩ := p
            dsimp only at y1 y2 JD
            go_wp2_with fail
            refine JP.out.mono ?_
            rintro e wd' ⟨rfl, rfl⟩
            clear JP
            go_wp2_with fail
            refine JD.out.mono ?_
            rintro e w5 ⟨rfl, HX⟩
            obtain ⟨own, gs, fr, C, hX⟩ := HX.out
            have z7 : w5.cell? ⟨g7, k, none⟩ = some (.bool lv) := by rw [hX.2.2.2.1.cellAt k (by omega)]; exact HLK.out
            have zf := hX.2.2.2.1.frozenAt k
            have HSET := hide (hX.set7 k false)
            have HXX := hide hX
            clear hX HX JD x1 y1 y2 HLK
            cases lv with
            | true =>
              have hcs := HL2.out.1 rfl
              have tn : IntKind.i64.wrap ((cntB onl : Int) - 1) = ((cntB (onl.set k false) : Nat) : Int) := by rw [IntKind.wrap_i64]; omega
              have HCS := hide hcs
              have HLS : Hid ((onl.set k false).length = onl.length) := by unfold Hid; simp
              simp only [if_true]
              clear hcs HL2 HXX
              go_wp2_with fail
              go_roundw
              case rel => exact ⟨i + 1, all, onl.set k false, some ⟨g6, 0, none⟩, c6, some ⟨g7, 0, none⟩, c7, by omega, by omega, by go_num, rfl, by rw [HLS.out], by go_num, by rw [HLS.out]; exact ⟨_, gs, fr, C, HSET.out⟩⟩
              case measure => simp [intOf]; omega
            | false =>
              have hsame := HL2.out.2 rfl
              have HXE : Hid (∃ own gs fr C, Sx w gw (i + 1) w5 own (.slice (some ⟨g6, 0, none⟩) all.length c6) (.slice (some ⟨g7, 0, none⟩) onl.length c7) gs fr C all onl all onl) := by
                have := HXX.out
                rw [hsame] at this
                exact ⟨own, gs, fr, C, this⟩
              simp only [Bool.false_eq_true, if_false]
              clear hsame HL2 HXX HSET
              go_wp2_with fail
              go_roundw
              case rel => exact ⟨i + 1, all, onl, some ⟨g6, 0, none⟩, c6, some ⟨g7, 0, none⟩, c7, by omega, by omega, by go_num, rfl, rfl, rfl, HXE⟩
              case measure => simp [intOf]; omega
        · have t2 : ¬ (i : Int) < 300 := by omega
          go_wp2_with fail
          go_meet
          exact ⟨i, all, onl, a6, c6, a7, c7, by omega, rfl, rfl, rfl, HS⟩
      · have t1 : ¬ (i : Int) < (ds.length : Int) := by omega
        go_wp2_with fail
        go_meet
        exact ⟨i, all, onl, a6, c6, a7, c7, by omega, rfl, rfl, rfl, HS⟩
  obtain ⟨t, all, onl, a6, c6, a7, c7, ht, rfl, rfl, rfl, HS⟩ := hcut
  clear HA HF H0
  obtain ⟨hcap6, hcap7, hal, hol⟩ : (all.length ≤ c6 ∧ c6 ≤ 9223372036854775807) ∧ (onl.length ≤ c7 ∧ c7 ≤ 9223372036854775807) ∧ all.length ≤ 300 ∧ onl.length = all.length := by
    obtain ⟨own, gs, fr, C, h⟩ := HS.out
    exact ⟨own_cap h.2.2.1, own_cap h.2.2.2.1, by have := h.2.1.2.1; omega, h.2.1.1.symm⟩
  have HOL := hide hol
  clear hol
  go_wp2_with fail
  go_loopw [16] (fun v16 W => ∃ k : Nat, k ≤ all.length ∧ v16 = .int .i64 (k : Int) ∧ Hid (∃ own gs fr C, Sx w gw t W own (.slice a6 all.length c6) (.slice a7 onl.length c7) gs fr C all onl all onl)) (fun v16 _ => all.length - (intOf v16).toNat)
  case atStart => exact ⟨0, Nat.zero_le _, rfl, HS⟩
  case round =>
    obtain ⟨k, hkl, rfl, HK⟩ := hrel
    clear HS
    by_cases hlt : k < all.length
    · have t1 : (k : Int) < (all.length : Int) := by omega
      have k2 : k < onl.length := by have := HOL.out; omega
      have t2 : (k : Int) < (onl.length : Int) := by omega
      have t0 : (0 : Int) ≤ (k : Int) := by omega
      obtain ⟨own, gs, fr, C, h⟩ := HK.out
      obtain ⟨g6, c', e6, -, -⟩ := own_form h.2.2.1 (by omega)
      simp only [Value.slice.injEq] at e6
      obtain ⟨rfl, -, rfl⟩ := e6
      obtain ⟨g7, c', e7, -, -⟩ := own_form h.2.2.2.1 (by omega)
      simp only [Value.slice.injEq] at e7
      obtain ⟨rfl, -, rfl⟩ := e7
      have HC : Hid (∀ W', Below wr.heap.size wr W' → W'.cell? ⟨g6, k * 2, none⟩ = some (.int .i64 (all[k].1 : Int)) ∧ W'.cell? ⟨g6, k * 2 + 1, none⟩ = some (.int .i64 (all[k].2 : Int)) ∧ W'.cell? ⟨g7, k, none⟩ = some (.bool onl[k])) := fun W' hW => by
        obtain ⟨x1, x2⟩ := i_own_ent (own_later h.2.2.1 hW) k hlt
        refine ⟨x1, x2, ?_⟩
        rw [(own_later h.2.2.2.1 hW).cellAt k (by omega), bz_at onl k k2]
      have HQ := hide (fun W' hW => h.asks (W' := W') hW ht k hlt k2)
      have HN : Hid (∀ W', Below wr.heap.size wr W' → ∃ own gs fr C, Sx w gw t W' own (.slice (some ⟨g6, 0, none⟩) all.length c6) (.slice (some ⟨g7, 0, none⟩) onl.length c7) gs fr C all onl all onl) := fun W' hW => ⟨_, _, _, _, h.later hW⟩
      clear h HK
      generalize all[k] = p at *
      generalize onl[k] = lv at *
      obtain ⟨pi, pg⟩ := p
      generalize (pi : Int) = pI at *
      generalize (pg : Int) = pG at *
      cases lv with
      | true =>
        simp only [if_true] at HQ
        obtain ⟨c0, c1, c2⟩ := HC.out wr (Below.refl _ wr)
        have J := hide (HQ.out wr (Below.refl _ wr)).1
        go_wp2_with fail
        refine J.out.mono ?_
        rintro e x1 ⟨rfl, hb1⟩
        have B1 := hide hb1
        clear hb1 J
        clear c0 c1 c2
        obtain ⟨c0, c1, c2⟩ := HC.out x1 B1.out
        have J := hide (HQ.out x1 B1.out).2.1
        go_wp2_with fail
        refine J.out.mono ?_
        rintro e x2 ⟨⟨ex, ey, ea, en, ec', rfl⟩, hb2⟩
        have B2 : Hid (Below wr.heap.size wr (x2.alloc (.cells #[.int .i64 ex, .int .i64 ey, .slice ea en ec'] 87))) := below_on (below_on B1.out hb2) (below_alloc _ _)
        clear hb2 J
        clear c0 c1 c2
        obtain ⟨c0, c1, c2⟩ := HC.out (x2.alloc (.cells #[.int .i64 ex, .int .i64 ey, .slice ea en ec'] 87)) B2.out
        have J := hide (HQ.out _ B2.out).2.2.1
        go_wp2_with fail
        refine J.out.mono ?_
        rintro e x3 ⟨rfl, hb3⟩
        have B3 : Hid (Below wr.heap.size wr (x3.alloc (.cells #[.int .i64 0, .slice none 0 0] 32))) := below_on (below_on B2.out hb3) (below_alloc _ _)
        clear hb3 J
        clear c0 c1 c2
        obtain ⟨c0, c1, c2⟩ := HC.out (x3.alloc (.cells #[.int .i64 0, .slice none 0 0] 32)) B3.out
        have J := hide (HQ.out _ B3.out).2.2.2.1
        go_wp2_with fail
        refine J.out.mono ?_
        rintro e x4 ⟨rfl, hb4⟩
        have B4 : Hid (Below wr.heap.size wr x4) := below_on B3.out hb4
        clear hb4 J
        clear c0 c1 c2
        obtain ⟨c0, c1, c2⟩ := HC.out x4 B4.out
        have J := hide (HQ.out _ B4.out).2.2.2.2.1
        go_wp2_with fail
        refine J.out.mono ?_
        rintro e x5 ⟨rfl, hb5⟩
        have B5 : Hid (Below wr.heap.size wr x5) := below_on B4.out hb5
        clear hb5 J
        clear c0 c1 c2
        obtain ⟨c0, c1, c2⟩ := HC.out x5 B5.out
        have J := hide (HQ.out _ B5.out).2.2.2.2.2
        go_wp2_with fail
        refine J.out.mono ?_
        rintro e x6 ⟨rfl, hb6⟩
        have B6 : Hid (Below wr.heap.size wr x6) := below_on B5.out hb6
        clear hb6 J
        clear c0 c1 c2
        obtain ⟨c0, c1, c2⟩ := HC.out x6 B6.out
        have HN6 := hide (HN.out x6 B6.out)
        clear HQ HC HN B1 B2 B3 B4 B5
        go_wp2_with fail
        go_roundw
        case rel => exact ⟨k + 1, by omega, by go_num, HN6.out⟩
        case measure => simp [intOf]; omega
      | false =>
        simp only [Bool.false_eq_true, if_false] at HQ
        obtain ⟨c0, c1, c2⟩ := HC.out wr (Below.refl _ wr)
        have J := hide (HQ.out wr (Below.refl _ wr)).1
        go_wp2_with fail
        refine J.out.mono ?_
        rintro e x1 ⟨rfl, hb1⟩
        have B1 := hide hb1
        clear hb1 J
        clear c0 c1 c2
        obtain ⟨c0, c1, c2⟩ := HC.out x1 B1.out
        have J := hide (HQ.out x1 B1.out).2.1
        go_wp2_with fail
        refine J.out.mono ?_
        rintro e x2 ⟨⟨ex, ey, ea, en, ec', rfl⟩, hb2⟩
        have B2 : Hid (Below wr.heap.size wr (x2.alloc (.cells #[.int .i64 ex, .int .i64 ey, .slice ea en ec'] 87))) := below_on (below_on B1.out hb2) (below_alloc _ _)
        clear hb2 J
        clear c0 c1 c2
        obtain ⟨c0, c1, c2⟩ := HC.out (x2.alloc (.cells #[.int .i64 ex, .int .i64 ey, .slice ea en ec'] 87)) B2.out
        have J := hide (HQ.out _ B2.out).2.2.1
        go_wp2_with fail
        refine J.out.mono ?_
        rintro e x3 ⟨rfl, hb3⟩
        have B3 : Hid (Below wr.heap.size wr (x3.alloc (.cells #[.int .i64 0, .slice none 0 0] 32))) := below_on (below_on B2.out hb3) (below_alloc _ _)
        clear hb3 J
        clear c0 c1 c2
        obtain ⟨c0, c1, c2⟩ := HC.out (x3.alloc (.cells #[.int .i64 0, .slice none 0 0] 32)) B3.out
        have J := hide (HQ.out _ B3.out).2.2.2.1
        go_wp2_with fail
        refine J.out.mono ?_
        rintro e x4 ⟨rfl, hb4⟩
        have B4 : Hid (Below wr.heap.size wr x4) := below_on B3.out hb4
        clear hb4 J
        clear c0 c1 c2
        obtain ⟨c0, c1, c2⟩ := HC.out x4 B4.out
        have J := hide (HQ.out _ B4.out).2.2.2.2.1
        go_wp2_with fail
        refine J.out.mono ?_
        rintro e x5 ⟨rfl, hb5⟩
        have B5 : Hid (Below wr.heap.size wr x5) := below_on B4.out hb5
        clear hb5 J
        clear c0 c1 c2
        obtain ⟨c0, c1, c2⟩ := HC.out x5 B5.out
        have J := hide (HQ.out _ B5.out).2.2.2.2.2
        go_wp2_with fail
        refine J.out.mono ?_
        rintro e x6 ⟨rfl, hb6⟩
        have B6 : Hid (Below wr.heap.size wr x6) := below_on B5.out hb6
        clear hb6 J
        clear c0 c1 c2
        obtain ⟨c0, c1, c2⟩ := HC.out x6 B6.out
        have HN6 := hide (HN.out x6 B6.out)
        clear HQ HC HN B1 B2 B3 B4 B5
        go_wp2_with fail
        go_roundw
        case rel => exact ⟨k + 1, by omega, by go_num, HN6.out⟩
        case measure => simp [intOf]; omega
    · obtain rfl : k = all.length := by omega
      have t1 : ¬ (all.length : Int) < (all.length : Int) := by omega
      obtain ⟨own, gs, fr, C, h⟩ := HK.out
      have J := hide (h.1.count h.2.1)
      have HE := hide h.2.2.2.2.2.2.1
      clear h HK
      go_wp2_with fail
      refine J.out.mono ?_
      rintro e w9 ⟨⟨a9, c9, rfl⟩, hb9⟩
      have HB9 := hide (below_on HE.out hb9)
      clear hb9 J
      generalize cntB onl = n at *
      go_wp2_with fail
      go_ret
      exact ⟨rfl, HB9.out⟩
end Go.Proofs.YtafmiolehlagkaaGreat

/-
  WorldStale, for every input: what came in, opened; the row.
-/
namespace Go.Proofs.YtafmiolehlagkaaGreat
open Go.ChangeShapes Go.WideShapes Go.ChangeAt Go.RowKit
set_option maxRecDepth 100000
theorem own : ownKnob Tryz.prog.godebug = none := by kernel_rfl
theorem laidOut : laidOutB Tryz.prog = true := by kernel_rfl
theorem int_at {H : Type} {enc : TypeId × Value → H} {W : World} {m j t : Nat} (ht : Tryz.prog.underlying t = some (.int .i64)) (hc1 : Tryz.prog.cellsOf t = 1) {cs : List Value} {y : DataW H × List MemPlace} (h : DataW.trod enc Tryz.prog W 0 (fun _ => true) true m t ((cs.drop j).take (Tryz.prog.cellsOf t)) = some y) : ∃ n : Int, cs[j]? = some (.int .i64 n) ∧ Bd n := by
  rw [hc1] at h
  obtain ⟨n, hn, _, hw⟩ := DataW.trod_int ht h
  refine ⟨n, ?_, ?_⟩
  · have h2 := congrArg (fun l => l[0]?) hn
    simpa [List.getElem?_take, List.getElem?_drop] using h2
  · simp [Lit.wf, IntKind.min, IntKind.max, IntKind.signed, IntKind.bits] at hw
    exact hw
theorem deed_cells {H : Type} {enc : TypeId × Value → H} {W : World} {fuel : Nat} {cs : List Value} {x : DataW H × List MemPlace} (hf : DataW.trod enc Tryz.prog W 0 (fun _ => true) true fuel 69 cs = some x) :
    ∃ d : Dd, (cs[0]? = some (.int .i64 d.1) ∧ cs[1]? = some (.int .i64 d.2.1) ∧ cs[2]? = some (.int .i64 d.2.2.1) ∧ cs[3]? = some (.int .i64 d.2.2.2)) ∧ DdOk d := by
  obtain ⟨xs, m, _, hx, _, hxl, hfs⟩ := DataW.trod_struct Tryz.underlying69 hf
  have hxl4 : xs.length = 4 := hxl
  have g0 := hfs 0 _ rfl
  have g1 := hfs 1 _ rfl
  have g2 := hfs 2 _ rfl
  have g3 := hfs 3 _ rfl
  rw [List.getElem?_eq_getElem (by omega)] at g0 g1 g2 g3
  obtain ⟨a, k0, h0⟩ := int_at Tryz.underlying3 (by kernel_rfl) g0
  obtain ⟨b, k1, h1⟩ := int_at Tryz.underlying3 (by kernel_rfl) g1
  obtain ⟨c, k2, h2⟩ := int_at Tryz.underlying3 (by kernel_rfl) g2
  obtain ⟨d, k3, h3⟩ := int_at Tryz.underlying2 (by kernel_rfl) g3
  exact ⟨(a, b, c, d), ⟨k0, k1, k2, k3⟩, h0, h1, h2, h3⟩
theorem deeds_of {W : World} {ao : Option Addr} : ∀ (n : Nat), (∀ i, i < n → ∃ g o, ao = some ⟨g, o, none⟩ ∧ ∃ d : Dd, DdOk d ∧ W.cell? ⟨g, o + i * 4, none⟩ = some (.int .i64 d.1) ∧ W.cell? ⟨g, o + i * 4 + 1, none⟩ = some (.int .i64 d.2.1) ∧ W.cell? ⟨g, o + i * 4 + 2, none⟩ = some (.int .i64 d.2.2.1) ∧ W.cell? ⟨g, o + i * 4 + 3, none⟩ = some (.int .i64 d.2.2.2)) →
    ∃ ds : List Dd, ds.length = n ∧ (∀ d ∈ ds, DdOk d) ∧ ∀ i (hi : i < ds.length), ∃ g o, ao = some ⟨g, o, none⟩ ∧ W.cell? ⟨g, o + i * 4, none⟩ = some (.int .i64 ds[i].1) ∧ W.cell? ⟨g, o + i * 4 + 1, none⟩ = some (.int .i64 ds[i].2.1) ∧ W.cell? ⟨g, o + i * 4 + 2, none⟩ = some (.int .i64 ds[i].2.2.1) ∧ W.cell? ⟨g, o + i * 4 + 3, none⟩ = some (.int .i64 ds[i].2.2.2)
  | 0, _ => ⟨[], rfl, fun d hd => (by cases hd), fun i hi => absurd hi (by simp)⟩
  | n + 1, h => by
    obtain ⟨ds, e1, e2, e3⟩ := deeds_of n (fun i hi => h i (by omega))
    obtain ⟨g, o, ea, d, hd, hc⟩ := h n (by omega)
    refine ⟨ds ++ [d], by simp [e1], fun x hx => ?_, fun i hi => ?_⟩
    · rcases List.mem_append.1 hx with hx | hx
      · exact e2 x hx
      · rw [List.mem_singleton.1 hx]; exact hd
    · by_cases c : i < ds.length
      · rw [List.getElem_append_left c]
        exact e3 i c
      · have hin : i = ds.length := by simp at hi; omega
        subst hin
        rw [List.getElem_append_right (Nat.le_refl _)]
        simp only [Nat.sub_self, List.getElem_cons_zero, e1]
        exact ⟨g, o, ea, hc⟩
theorem deeds_arg {H : Type} {enc : TypeId × Value → H} {W : World} {a0 : Option Addr} {len0 cap0 : Nat} {d0 : DataW H} {p0 : List MemPlace} (h0 : DataW.Trod enc Tryz.prog W 0 (fun _ => true) true 58 (.slice a0 len0 cap0) d0 p0) : ∃ ds : List Dd, De W (.slice a0 len0 cap0) ds ∧ ∀ d ∈ ds, DdOk d := by
  obtain ⟨fuel, hf⟩ := h0
  rcases DataW.trod_slice Tryz.underlying58 hf with ⟨hcs, _⟩ | ⟨a, len, cap, elems, rest, n, _, hcs, hx, _, hl, hm, hlen, hel, _, _⟩
  · simp [Value.cells] at hcs
    obtain ⟨rfl, rfl, rfl⟩ := hcs
    exact ⟨[], ⟨none, 0, rfl, Nat.le_refl _, Nat.zero_le _, fun i hi => absurd hi (by simp)⟩, fun d hd => by cases hd⟩
  · simp [Value.cells] at hcs
    obtain ⟨rfl, rfl, rfl⟩ := hcs
    have hc4 : Tryz.prog.cellsOf 69 = 4 := by kernel_rfl
    have spot0 : 0 < len0 → ∃ b off, a = ⟨b, off, none⟩ := fun hp => by
      have h1 := hel 0 hp
      rw [List.getElem?_eq_getElem (by omega), hc4, Option.bind_eq_some_iff] at h1
      obtain ⟨cs', hcs', ht'⟩ := h1
      obtain ⟨d, ⟨k0, -⟩, -⟩ := deed_cells ht'
      obtain ⟨_, _, hcell⟩ := World.cells?_some hcs'
      have q0 := (hcell 0 (by omega)).trans k0
      obtain ⟨b, off, spot⟩ := a
      have hspot : spot = none := by simpa [Addr.add] using World.cell?_spot q0
      subst hspot
      exact ⟨b, off, rfl⟩
    obtain ⟨ds, e1, e2, e3⟩ := deeds_of (W := W) (ao := some a) len0 (fun i hi => by
      have h1 := hel i hi
      rw [List.getElem?_eq_getElem (by omega), hc4, Option.bind_eq_some_iff] at h1
      obtain ⟨cs', hcs', ht'⟩ := h1
      obtain ⟨d, ⟨k0, k1, k2, k3⟩, hok⟩ := deed_cells ht'
      obtain ⟨_, _, hcell⟩ := World.cells?_some hcs'
      have q0 := (hcell 0 (by omega)).trans k0
      have q1 := (hcell 1 (by omega)).trans k1
      have q2 := (hcell 2 (by omega)).trans k2
      have q3 := (hcell 3 (by omega)).trans k3
      obtain ⟨blk, off, rfl⟩ := spot0 (by omega)
      rw [Go.WideShapes.add_plain, Go.WideShapes.add_plain] at q0 q1 q2 q3
      exact ⟨blk, off, rfl, d, hok, q0, q1, q2, q3⟩)
    subst e1
    exact ⟨ds, ⟨some a, cap0, rfl, hl, hm, e3⟩, e2⟩
end Go.Proofs.YtafmiolehlagkaaGreat
namespace Go.Proofs.YtafmiolehlagkaaGreat.worldStale
open Go.ChangeShapes Go.WideShapes Go.ChangeAt Go.RowKit
set_option maxRecDepth 100000 in
theorem lifted (os : Os) (started : os.Started) (H : Type) (enc : TypeId × Value → H) :
    ReturnsInHanded {} Tryz.checked os 8 .any (Rows.worldStaleSpec.pre6 enc Tryz.prog Tryz.f8 Rows.worldStaleRow.domain false) (Rows.worldStaleSpec.post enc Tryz.prog Tryz.f8 false true false false) := by
  refine returnsInHanded_of_change_sized (C := Tryz.checked) own started (by kernel_rfl) Tryz.func8
    (ChangeSpec.witness6 (enc := enc) (C := Tryz.checked) false ⟨#[], #[.slice none 0 0], []⟩ 8 (by kernel_rfl) (by kernel_rfl) (by kernel_rfl) (by kernel_rfl)) ?_
  intro W base args ds gs before hval0 hW hcnd hsz0 _
  have hval : ∀ (j : Nat) t v, Tryz.f8.params[j]? = some t → args[j]? = some v → Value.okWide Tryz.prog W .any base t v := hval0
  have hW' := hW
  obtain ⟨p, q, hA0, hV, rfl, hfz, hnd⟩ := hW
  have hA : DataW.TrodAll enc Tryz.prog W 0 (fun _ => true) true Tryz.f8.params.toList args.toList ds p := hA0
  rw [Tryz.params8] at hA hval
  obtain ⟨v0, vs0, d0, ds0, p0, q0, hargs, rfl, rfl, h0, r0⟩ := trodAll_cons hA
  obtain ⟨rfl, rfl, rfl⟩ := trodAll_nil r0
  obtain rfl : args = #[v0] := by cases args; simp_all
  obtain ⟨rfl, rfl⟩ := trodVars_none hV
  obtain ⟨a0, len0, cap0, rfl⟩ := okWide_slice Tryz.underlying58 (hval 0 58 v0 rfl rfl)
  have lt0 : ∀ x ∈ p0, x.block < W.heap.size := by obtain ⟨m, hm⟩ := h0; exact DataW.trod_lt m _ _ _ hm
  obtain ⟨dds, hde, hok⟩ := deeds_arg h0
  clear hA0 hval0
  refine (stale_walk _ dds W hde hok).mono fun e W' ⟨he, bel⟩ => ?_
  subst he
  exact ⟨_, rfl, _, _, _, [], _, [], hW', trodAll_mk1 (shut_bool Tryz.underlying4 _), (trodAll_cons_mk (Below.trod laidOut (by kernel_rfl) (of_decide_eq_true (by kernel_rfl)) h0 bel lt0) trodAll_mk0), rfl, bel.frame _, fun h => by cases h⟩
theorem over : Rows.worldStaleRow.holds Tryz.pinned (OpenSpec.ofChange Rows.worldStaleSpec) :=
  OpenClaim.holds_of_wide 8 Tryz.f8 rfl rfl rfl rfl rfl rfl rfl ⟨rfl, rfl, rfl, rfl, rfl⟩ rfl rfl rfl rfl rfl (by kernel_rfl) Tryz.func8 (by kernel_rfl)
    (of_decide_eq_true (by kernel_rfl)) (by unfold Func.isWrapper; first | (rw [if_pos (by decide +kernel)]; kernel_rfl) | (rw [if_neg (by decide +kernel)]; exact ⟨rfl, rfl⟩))
    (fun os started H enc _ => lifted os started H enc)
end Go.Proofs.YtafmiolehlagkaaGreat.worldStale
namespace Go.Proofs.YtafmiolehlagkaaGreat
theorem worldStale_holds : Rows.WorldStaleSaid := worldStale.over
#print axioms worldStale_holds
end Go.Proofs.YtafmiolehlagkaaGreat
