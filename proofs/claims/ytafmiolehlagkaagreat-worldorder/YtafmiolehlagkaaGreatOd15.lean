import Derived.Test.YtafmiolehlagkaaGreatOd14
import Derived.Test.YtafmiolehlagkaaGreatOd11
/-
  World: WorldOrder's walk.
-/
namespace Go.Proofs.YtafmiolehlagkaaGreat
open Go.RowKit
set_option maxRecDepth 100000
theorem pk_small (k : Nat) (hk : k < 4) : pk (k : Int) 4 = k := by
  match k, hk with
  | 0, _ => rfl
  | 1, _ => rfl
  | 2, _ => rfl
  | 3, _ => rfl
def rho (O : List Int) (j : Nat) : Nat := if O.length = 0 then 0 else pk (O.getD (j % O.length) 0) 4
theorem rho_nil {O : List Int} {j : Nat} (h : O.length = 0) : rho O j = 0 := if_pos h
theorem rho_at {O : List Int} {j : Nat} (h : 0 < O.length) (hj : j % O.length < O.length) : rho O j = pk O[j % O.length] 4 := by
  unfold rho
  rw [if_neg (by omega), List.getD_eq_getElem?_getD, List.getElem?_eq_getElem hj, Option.getD_some]
set_option maxHeartbeats 40000000 in
theorem order_walk (va vb vd : Value) (S O : List Int) (ds : List Dd) (w : World) (ha : Iz w va S) (hb : Iz w vb O) (hd : De w vd ds) (hS : ∀ x ∈ S, Bd x) (hO : ∀ x ∈ O, Bd x) (hfit : ∀ d ∈ ds, DdOk d) : Calls Tryz.prog 7 #[va, vb, vd] w fun e w' => e = .returned (.bool true) ∧ Below w.heap.size w w' := by
  obtain ⟨i29, hi29, hy0, hy1, hy2⟩ := info_parts info32
  obtain ⟨i32, hi32, hz0, hz1, hz2⟩ := info_parts infoP
  obtain ⟨a0, c0, rfl, hc1, hc2, hc3⟩ := ha
  obtain ⟨a1, c1, rfl, hd1, hd2, hd3⟩ := hb
  obtain ⟨a2, c2, rfl, he1, he2, he3⟩ := hd
  have hbig0 : c0 ≤ 9223372036854775807 := by unfold maxLen at hc2; omega
  have hbig1 : c1 ≤ 9223372036854775807 := by unfold maxLen at hd2; omega
  have hbig2 : c2 ≤ 9223372036854775807 := by unfold maxLen at he2; omega
  have key : ∀ (W : World), Below w.heap.size w W → ∀ (p : Addr) (x : Value), w.cell? p = some x → W.cell? p = some x := fun W hW p x hx => (hW.cell (p := p) (World.block_lt_of_cell? w _ hx)).trans hx
  have HA : Hid (∀ i (hi : i < S.length), ∃ g o, a0 = some ⟨g, o, none⟩ ∧ ∀ W, Below w.heap.size w W → W.cell? ⟨g, o + i, none⟩ = some (.int .i64 S[i])) := fun i hi => by
    obtain ⟨g, o, e, k1⟩ := hc3 i hi
    exact ⟨g, o, e, fun W hW => key W hW _ _ k1⟩
  have HO : Hid (∀ i (hi : i < O.length), ∃ g o, a1 = some ⟨g, o, none⟩ ∧ ∀ W, Below w.heap.size w W → W.cell? ⟨g, o + i, none⟩ = some (.int .i64 O[i])) := fun i hi => by
    obtain ⟨g, o, e, k1⟩ := hd3 i hi
    exact ⟨g, o, e, fun W hW => key W hW _ _ k1⟩
  have HD : Hid (∀ i (hi : i < ds.length), ∃ g o, a2 = some ⟨g, o, none⟩ ∧ ∀ W, Below w.heap.size w W → W.cell? ⟨g, o + i * 4, none⟩ = some (.int .i64 ds[i].1) ∧ W.cell? ⟨g, o + i * 4 + 1, none⟩ = some (.int .i64 ds[i].2.1) ∧ W.cell? ⟨g, o + i * 4 + 2, none⟩ = some (.int .i64 ds[i].2.2.1) ∧ W.cell? ⟨g, o + i * 4 + 3, none⟩ = some (.int .i64 ds[i].2.2.2)) := fun i hi => by
    obtain ⟨g, o, e, k1, k2, k3, k4⟩ := he3 i hi
    exact ⟨g, o, e, fun W hW => ⟨key W hW _ _ k1, key W hW _ _ k2, key W hW _ _ k3, key W hW _ _ k4⟩⟩
  have HSB := hide hS
  have HOB := hide hO
  have HF := hide hfit
  clear hc3 hc2 hd3 hd2 he3 he2 hfit hS hO key
  go_enter Tryz.func7, Tryz.ntmps7
  go_wp2_with fail
  refine (shown_any w).mono ?_
  rintro e w1 ⟨rfl, hb1⟩
  have HB1 := hide hb1
  clear hb1
  go_wp2_with fail
  refine (usual_any w1).mono ?_
  rintro e w2 ⟨v, rfl, hk, hb2⟩
  have J1 := hide (wn_new (hk w2 (Below.refl _ _)) usual_may)
  have HB2 := hide (below_on HB1.out hb2)
  obtain ⟨av, cv, rfl, -⟩ := hk w2 (Below.refl _ _)
  clear hk hb2
  go_wp2_with fail
  refine J1.out.mono ?_
  rintro e w3 ⟨ga, rfl, ⟨oa, hoa, hWa⟩, hb3⟩
  have HWa := hide hWa
  have Hoa := hide hoa
  have HB3 := hide (below_on HB2.out hb3)
  have HS2 := hide HB2.out.size
  clear J1 hWa hoa hb3 HB1 HB2
  go_wp2_with fail
  refine (usual_any w3).mono ?_
  rintro e w4 ⟨v, rfl, hk, hb4⟩
  have J1 := hide (wn_new (hk w4 (Below.refl _ _)) usual_may)
  have HB4 := hide hb4
  obtain ⟨av, cv, rfl, -⟩ := hk w4 (Below.refl _ _)
  clear hk hb4
  go_wp2_with fail
  refine J1.out.mono ?_
  rintro e w5 ⟨gb, rfl, ⟨ob, hob, hWb⟩, hb5⟩
  have H0 : Hid (St1 w ga gb S w5 0 (.slice none 0 0)) := by
    have hb35 := below_on HB4.out hb5
    have hB := HB3.out.size
    have h2 : w.heap.size ≤ w2.heap.size := HS2.out
    refine ⟨rel oa w3 0, ob, [], [], _, _, ⟨HWa.out.later hb35, hWb, fun k _ e => ?_, World.ownsRow_nil _ _ _ _, fun k e => by simp [Value.ownBlock] at e, ⟨below_on HB3.out hb35, fun k hk => ?_⟩, below_on HB3.out hb35, fun k hk => hob k ?_⟩, P1.start S⟩
    · by_cases c : k < w3.heap.size
      · exact hob k (Nat.lt_of_lt_of_le c HB4.out.size)
      · exact absurd (rel_new (by omega)) e
    · rw [rel_old (by omega)]
      exact Hoa.out k (by omega)
    · have := HB4.out.size
      omega
  clear J1 hWb hob hb5 HB4 HB3 HS2 HWa Hoa
  go_upto_block 0 with fail
  go_cut [12] (fun v12 W => ∃ (i : Nat) (a12 : Option Addr) (c12 : Nat), i ≤ 40 ∧ i ≤ S.length ∧ (i < S.length → i = 40) ∧ (i = 0 → a12 = none ∧ c12 = 0) ∧ v12 = .slice a12 i c12 ∧ Hid (St1 w ga gb S W i (.slice a12 i c12)))
  case first =>
    go_wp2_with fail
    go_loopw [12, 13] (fun v12 v13 W => ∃ (i : Nat) (a12 : Option Addr) (c12 : Nat), i ≤ 40 ∧ i ≤ S.length ∧ (i = 0 → a12 = none ∧ c12 = 0) ∧ v13 = .int .i64 (i : Int) ∧ v12 = .slice a12 i c12 ∧ Hid (St1 w ga gb S W i (.slice a12 i c12))) (fun _ v13 _ => 40 - (intOf v13).toNat)
    case atStart => exact ⟨0, none, 0, by omega, Nat.zero_le _, fun _ => ⟨rfl, rfl⟩, rfl, rfl, H0⟩
    case round =>
      obtain ⟨i, a12, c12, hi4, hiS, hz, rfl, rfl, HS⟩ := hrel
      have HZ0 : Hid (i = 0 → a12 = none ∧ c12 = 0) := hz
      clear hz
      obtain ⟨w6, hw6⟩ : ∃ W, W = wr := ⟨_, rfl⟩
      subst hw6
      clear H0
      obtain ⟨-, hcap1, hcap2⟩ := HS.out.cap
      have HBW := hide HS.out.below
      by_cases hlt : i < S.length
      · have t1 : (i : Int) < (S.length : Int) := by omega
        by_cases h40 : i < 40
        · have t2 : (i : Int) < 40 := by omega
          go_upto_block 2 with fail
          go_cut [14] (fun v14 W' => ∃ (n : Nat) (a14 : Option Addr) (c14 : Nat), n ≤ 4 ∧ v14 = .slice a14 n c14 ∧ Hid (Below w6.heap.size w6 W' ∧ ∃ L, L.length = n ∧ Lp w6.heap.size W' (.slice a14 n c14) L (bitS S i) (i : Int) 4))
          case first =>
            clear HS
            have hp16 : pk (S.getD i 0) 16 < 16 := pk_lt _ (by omega)
            obtain ⟨x, hx⟩ : ∃ x, x = pk (S.getD i 0) 16 := ⟨_, rfl⟩
            have HX : Hid (∀ k, bitS S i k = x.testBit k) := fun k => by rw [hx]; rfl
            have JP : Hid (∀ W, Calls Tryz.prog 16 #[.int .i64 (S[i]), .int .i64 16] W fun e w' => e = .returned (.int .i64 (x : Int)) ∧ w' = W) := fun W => by
              have hB := HSB.out _ (List.getElem_mem hlt)
              have := pick_any S[i] 16 W hB.1 hB.2 (by omega) (by omega)
              rw [hx, List.getD_eq_getElem?_getD, List.getElem?_eq_getElem hlt, Option.getD_some]
              exact this
            rw [← hx] at hp16
            obtain ⟨g, o, rfl, hcell⟩ := HA.out i hlt
            have HC : Hid (∀ W, Below w6.heap.size w6 W → W.cell? ⟨g, o + i, none⟩ = some (.int .i64 S[i])) := fun W hW => hcell W (below_on HBW.out hW)
            clear hx hcell
            generalize S[i] = si at *
            go_wp2_with fail
            go_loopw [14, 15] (fun v14 v15 W' => ∃ (k n : Nat) (a14 : Option Addr) (c14 : Nat), k ≤ 4 ∧ n ≤ 4 ∧ v15 = .int .i64 (k : Int) ∧ v14 = .slice a14 n c14 ∧ Hid (Below w6.heap.size w6 W' ∧ ∃ L, L.length = n ∧ Lp w6.heap.size W' (.slice a14 n c14) L (bitS S i) (i : Int) k)) (fun _ v15 _ => 4 - (intOf v15).toNat)
            case atStart => exact ⟨0, 0, none, 0, by omega, by omega, rfl, rfl, Below.refl _ _, [], rfl, Lp.start _ _ _ _⟩
            case round =>
              obtain ⟨k, n, a14, c14, hk4, hn4, rfl, rfl, HL⟩ := hrel
              by_cases hk : k < 4
              · have t3 : (k : Int) < 4 := by omega
                have t4 : ¬ (k : Int) < 0 := by omega
                have q1 := HC.out _ HL.out.1
                have e1 := bit_eq x k (by omega)
                cases hbk : x.testBit k with
                | false =>
                  rw [hbk] at e1
                  have HL' : Hid (Below w6.heap.size w6 wr ∧ ∃ L, L.length = n ∧ Lp w6.heap.size wr (.slice a14 n c14) L (bitS S i) (i : Int) (k + 1)) := by
                    obtain ⟨b1, L, b2, b3⟩ := HL.out
                    exact ⟨b1, L, b2, b3.skip ((HX.out k).trans hbk)⟩
                  clear hbk HL
                  go_wp2_with fail
                  refine (JP.out _).mono ?_
                  rintro e w5 ⟨rfl, h5⟩
                  rw [h5]
                  clear h5 w5
                  go_wp2_with fail
                  go_roundw
                  case rel => exact ⟨k + 1, n, a14, c14, by omega, hn4, by go_num, rfl, HL'⟩
                  case measure => simp [intOf]; omega
                | true =>
                  rw [hbk] at e1
                  obtain ⟨hcl1, hcl2⟩ : n ≤ c14 ∧ c14 ≤ 9223372036854775807 := by
                    obtain ⟨b1, L, b2, b3⟩ := HL.out
                    subst b2
                    exact own_cap b3.1
                  have JQ : Hid (∀ W, Calls Tryz.prog 23 #[.int .i64 (k : Int), .int .i64 (i : Int)] W fun e w' => ∃ v, e = .returned (.agg #[.int .i64 ((k : Int) + 1), v]) ∧ w'.ownsRow W.heap.size 2 1 v (c4 k) (zc (valsN (i : Int) (c4 k))) ∧ Below W.heap.size W w') := fun W => by
                    have := part_any (k : Int) (i : Int) W (by omega) (by omega)
                    rw [pk_small k hk] at this
                    exact this
                  have HBK := hide ((HX.out k).trans hbk)
                  clear hbk
                  go_wp2_with fail
                  refine (JP.out _).mono ?_
                  rintro e w5 ⟨rfl, h5⟩
                  rw [h5]
                  clear h5 w5
                  go_wp2_with fail
                  refine (JQ.out _).mono ?_
                  rintro e w7 ⟨v7, rfl, ho7, hb7⟩
                  obtain ⟨a7, n7, c7, rfl⟩ := own_slice ho7
                  obtain ⟨w8, hw8⟩ : ∃ X, X = w7.alloc (.cells #[.int .i64 ((k : Int) + 1), .slice a7 n7 c7] 32) := ⟨_, rfl⟩
                  obtain ⟨b1, L, b2, b3⟩ := HL.out
                  have hb8 : Below wr.heap.size wr w8 := below_on hb7 (hw8 ▸ below_alloc w7 _)
                  have x8 : w8.heap[w7.heap.size]? = some (.cells #[.int .i64 ((k : Int) + 1), .slice a7 n7 c7] 32 (0, 0)) := by rw [hw8]; exact heap_alloc_new w7 _
                  have HO8 : Hid (w8.ownsRow w6.heap.size 32 2 (.slice a14 n c14) n (pz L)) := by
                    have := own_later b3.1 hb8
                    rw [b2] at this
                    exact this
                  have HP8 : Hid (∀ (v9 : Value) (w9 : World), w9.ownsRow w6.heap.size 32 2 v9 (n + 1) (pz L ++ [.int .i64 ((k : Int) + 1), .slice a7 n7 c7]) → w8.grownBy w9 (Value.slice a14 n c14).ownBlock → Below w6.heap.size w6 w9 ∧ ∃ L, L.length = n + 1 ∧ Lp w6.heap.size w9 v9 L (bitS S i) (i : Int) (k + 1)) := fun v9 w9 k1 k2 => by
                    have e2 : ((k + 1 : Nat) : Int) = (k : Int) + 1 := by omega
                    have hb68 := below_on b1 hb8
                    refine ⟨hb68.trans (((Mv.refl w8 (fun q => (Value.slice a14 n c14).ownBlock = some q)).grown k2 (fun q _ e => e)).below hb68.size (fun q e => (b3.1.lt q e).1)), _, ?_, b3.push hb8 HBK.out (own_lower (own_later ho7 (hw8 ▸ below_alloc w7 _)) b1.size) ?_ k2⟩
                    · rw [List.length_append, b2]; rfl
                    · rw [e2, b2]
                      exact k1
                  have HZ8 : Hid (w6.heap.size ≤ w8.heap.size) := (below_on b1 hb8).size
                  have q8 : ∀ j u, [Value.int .i64 ((k : Int) + 1), .slice a7 n7 c7][j]? = some u → w8.cell? ⟨w7.heap.size, j, none⟩ = some u := fun j u hj => by
                    rw [cell_of_row w8 _ j _ 32 (0, 0) x8]
                    simpa using hj
                  have Q8 := hide q8
                  clear ho7 hb7 hb8 b1 b2 b3 x8 HL q8 HBK
                  go_wp2_with (at_builtin; first | rw [← hw8] | skip; refine wpList_append_own_at _ rfl _ _ 33 rfl w6.heap.size 32 i32 (.agg #[.int .i64 0, .slice none 0 0]) 2 32 Tryz.underlying33 hi32 hz0 hz1 hz2 rfl (by decide) _ n (pz L) rfl HO8.out ⟨w7.heap.size, 0, none⟩ 1 1 [.int .i64 ((k : Int) + 1), .slice a7 n7 c7] rfl rfl ?n1 ?n2 ?n3 ?n4 ?n5 ?_)
                  case n1 =>
                    intro j u hj
                    have := Q8.out j u hj
                    rw [add_at, Nat.zero_add]
                    exact this
                  case n2 => first | exact ⟨rfl, rfl⟩ | (intro u hu; simp at hu; rcases hu with rfl | rfl <;> rfl)
                  case n3 => unfold maxLen; omega
                  case n4 => omega
                  case n5 => exact HZ8.out
                  intro v9 w9 ho9 hg9 _ ha9
                  have H9 := hide (HP8.out v9 w9 ho9 (by first | exact hg9 | (rw [hw8]; exact hg9)))
                  obtain ⟨a9, c9, rfl⟩ := own_len ho9
                  have hn9 : n + 1 ≤ 4 := by
                    obtain ⟨-, L', e', hL'⟩ := H9.out
                    have := hL'.short (by omega)
                    omega
                  clear ho9 hg9 ha9 HP8 HO8 HZ8 Q8 hw8
                  go_wp2_with fail
                  go_roundw
                  case rel => exact ⟨k + 1, n + 1, a9, c9, by omega, hn9, by go_num, rfl, H9⟩
                  case measure => simp [intOf]; omega
              · have t3 : ¬ (k : Int) < 4 := by omega
                obtain rfl : k = 4 := by omega
                go_wp2_with fail
                go_meet
                exact ⟨n, a14, c14, hn4, rfl, HL⟩
          obtain ⟨n, a14, c14, hn4, rfl, HL⟩ := hcut
          obtain ⟨w7, hw7⟩ : ∃ W, W = wc := ⟨_, rfl⟩
          subst hw7
          obtain ⟨oa, ob, gs, A, Ca, Cb, hSo, hP⟩ := HS.out
          have hroom : ([] : List Nat) ≠ [] ∨ gs.length < 200 := .inr (by have := hP.1; omega)
          have HP := hide hP
          have J1 : Hid (Calls Tryz.prog 24 #[.pointer (some ⟨ga, 0, none⟩), .slice a14 n c14] w7 fun e w' => ∃ oa' ob' o, e = .returned (.tuple #[.agg #[.int .i64 ((takeE gs []).1 : Int), .int .i64 ((takeE gs []).2 : Int)], .int .i64 0]) ∧ So w ga gb w' oa' ob' (.slice a12 i c12) A (6 * i + 3) (takeG gs []) [] gs [] (fun x => if x = ent (takeE gs []) then some o else Ca x) Cb ∧ Gv (some o) (bitS S i) (i : Int)) := by
            obtain ⟨b1, L, b2, b3⟩ := HL.out
            refine ((hSo.later b1).spawnA (by omega) hroom b3 (fun k k1 _ => rel_new k1)).mono ?_
            rintro e w' ⟨rfl, oa', ob', o, h1, h2⟩
            exact ⟨oa', ob', o, rfl, h1, h2⟩
          have HLV := hide hSo.1.lv
          have HOK := hide hSo.1.ok
          have HRM := hide hroom
          clear hSo hP HS HL hroom
          generalize hp0 : takeE gs [] = p0 at *
          obtain ⟨pa, pb⟩ := p0
          go_wp2_with fail
          refine J1.out.mono ?_
          rintro e w8 ⟨oa', ob', o, rfl, hSo8, hG⟩
          have HG := hide hG
          obtain ⟨w9, hw9⟩ : ∃ X, X = w8.alloc (.cells #[.int .i64 (pa : Int), .int .i64 (pb : Int)] 29) := ⟨_, rfl⟩
          have hb9 : Below w8.heap.size w8 w9 := hw9 ▸ below_alloc w8 _
          have x9 : w9.heap[w8.heap.size]? = some (.cells #[.int .i64 (pa : Int), .int .i64 (pb : Int)] 29 (0, 0)) := by rw [hw9]; exact heap_alloc_new w8 _
          obtain ⟨kx, hkx⟩ : ∃ k, k = w8.heap.size := ⟨_, rfl⟩
          rw [← hkx] at x9
          have hS9 := hSo8.later hb9
          have J2 : Hid (Calls Tryz.prog 24 #[.pointer (some ⟨gb, 0, none⟩), .slice none 0 0] w9 fun e w' => ∃ oa' ob' o', e = .returned (.tuple #[.agg #[.int .i64 (pa : Int), .int .i64 (pb : Int)], .int .i64 0]) ∧ So w ga gb w' oa' ob' (.slice a12 i c12) A (6 * i + 6) (takeG gs []) [] (takeG gs []) [] (fun x => if x = ent (pa, pb) then some o else Ca x) (fun x => if x = ent (pa, pb) then some o' else Cb x) ∧ w'.heap[kx]? = some (.cells #[.int .i64 (pa : Int), .int .i64 (pb : Int)] 29 (0, 0))) := by
            refine (hS9.spawnB (by omega) HRM.out).mono ?_
            rintro e w' ⟨rfl, oa2, ob2, o', h1, h2⟩
            rw [hp0] at h1 ⊢
            exact ⟨oa2, ob2, o', rfl, h1, (wk_at h2 x9 (rel_new (by omega))).1⟩
          clear hSo8 hG hb9 hS9 J1 x9
          dsimp only
          go_upto_region 17 with fail
          rw [← hw9, ← hkx]
          clear hw9 hkx
          go_wp2_with fail
          refine J2.out.mono ?_
          rintro e w10 ⟨oa2, ob2, o', rfl, hSo10, x10⟩
          obtain ⟨w11, hw11⟩ : ∃ X, X = w10.alloc (.cells #[.int .i64 (pa : Int), .int .i64 (pb : Int)] 29) := ⟨_, rfl⟩
          have hb11 : Below w10.heap.size w10 w11 := hw11 ▸ below_alloc w10 _
          have x11 : w11.heap[w10.heap.size]? = some (.cells #[.int .i64 (pa : Int), .int .i64 (pb : Int)] 29 (0, 0)) := by rw [hw11]; exact heap_alloc_new w10 _
          obtain ⟨ky, hky⟩ : ∃ k, k = w10.heap.size := ⟨_, rfl⟩
          rw [← hky] at x11
          obtain ⟨z1, z2⟩ := kx_cells x10 hb11
          obtain ⟨z3, z4⟩ := kx_cells x11 (Below.refl _ w11)
          have hS12 := (hSo10.later hb11).later (below_alloc w11 (.cells #[.int .i64 (pa : Int), .int .i64 (pb : Int)] 29))
          have hAl : A.length = i := HP.out.2.1
          have HO12 : Hid ((w11.alloc (.cells #[.int .i64 (pa : Int), .int .i64 (pb : Int)] 29)).ownsRow w.heap.size 29 2 (.slice a12 i c12) i (ec A)) := by
            have := hS12.2.2.2.1
            rw [hAl] at this
            exact this
          have HP12 : Hid (∀ (v9 : Value) (w9 : World), w9.ownsRow w.heap.size 29 2 v9 (i + 1) (ec A ++ [.int .i64 (pa : Int), .int .i64 (pb : Int)]) → (w11.alloc (.cells #[.int .i64 (pa : Int), .int .i64 (pb : Int)] 29)).grownBy w9 (Value.slice a12 i c12).ownBlock → (v9.ownBlock = (Value.slice a12 i c12).ownBlock ∨ v9.ownBlock = some (w11.heap.size + 1)) → St1 w ga gb S w9 (i + 1) v9) := fun v9 w9 k1 k2 k3 => by
            have h9 := hS12.push (v9 := v9) (W' := w9) (a := pa) (b := pb) (by rw [hAl]; exact k1) k2 (by simpa using k3)
            have hp9 := HP.out.step (o := o) (o' := o') HLV.out HOK.out HG.out
            rw [hp0] at hp9
            exact ⟨_, _, _, _, _, _, h9, hp9⟩
          have HZ12 : Hid (w.heap.size ≤ w11.heap.size + 1) := by
            have := hS12.2.2.2.2.2.1.1.size
            unfold Hid
            simpa using this
          clear hSo10 x10 hb11 x11 hS12 hAl J2 HP HLV HOK HG HRM hp0
          dsimp only
          go_upto_region 18 with fail
          rw [← hw11, ← hky]
          clear hw11 hky
          go_wp2_with (at_builtin; refine wpList_append_own_at _ rfl _ _ 39 rfl w.heap.size 29 i29 (.agg #[.int .i64 0, .int .i64 0]) 2 16 Tryz.underlying39 hi29 hy0 hy1 hy2 rfl (by decide) _ i (ec A) rfl HO12.out ⟨w11.heap.size, 0, none⟩ 1 1 [.int .i64 (pa : Int), .int .i64 (pb : Int)] rfl rfl ?m1 ?m2 ?m3 ?m4 ?m5 ?_)
          case m1 =>
            intro j u hj
            match j, hj with
            | 0, hj => simp at hj; subst hj; simp [Addr.add]
            | 1, hj => simp at hj; subst hj; simp [Addr.add]
          case m2 => first | exact ⟨rfl, rfl⟩ | (intro u hu; simp at hu; rcases hu with rfl | rfl <;> rfl)
          case m3 => unfold maxLen; omega
          case m4 => omega
          case m5 => first | exact HZ12.out | (simp; exact HZ12.out)
          intro v9 w12 ho9 hg9 _ ha9
          have H9 := hide (HP12.out v9 w12 ho9 hg9 (by simpa using ha9))
          obtain ⟨a9, c9, rfl⟩ := own_len ho9
          clear ho9 hg9 ha9 HP12 HO12 HZ12 z1 z2 z3 z4
          go_wp2_with fail
          go_roundw
          case rel => exact ⟨i + 1, a9, c9, by omega, by omega, fun e => by omega, by go_num, rfl, H9⟩
          case measure => simp [intOf]; omega
        · have t2 : ¬ (i : Int) < 40 := by omega
          go_wp2_with fail
          go_meet
          exact ⟨i, a12, c12, hi4, hiS, fun _ => by omega, HZ0.out, rfl, HS⟩
      · have t1 : ¬ (i : Int) < (S.length : Int) := by omega
        go_wp2_with fail
        go_meet
        exact ⟨i, a12, c12, hi4, hiS, fun h => absurd h hlt, HZ0.out, rfl, HS⟩
  obtain ⟨i, a12, c12, hi4, hiS, hi40, hz, rfl, HS1⟩ := hcut
  have H2 := hide (St2.start HS1.out hi4 hz)
  have HI40 := hide hi40
  clear HS1 H0 hz hi40
  go_upto_block 4 with fail
  go_cut [12] (fun v12 W => ∃ (m : Nat) (a12 : Option Addr) (c12 : Nat), m ≤ 40 ∧ v12 = .slice a12 m c12 ∧ Hid (∃ t, t ≤ 200 ∧ St2 w ga gb S W i m (.slice a12 m c12) t))
  case first =>
    go_wp2_with fail
    go_loopw [12, 20] (fun v12 v20 W => ∃ (t m : Nat) (a12 : Option Addr) (c12 : Nat), t ≤ 200 ∧ t ≤ ds.length ∧ m ≤ 40 ∧ v20 = .int .i64 (t : Int) ∧ v12 = .slice a12 m c12 ∧ Hid (St2 w ga gb S W i m (.slice a12 m c12) t)) (fun _ v20 _ => 200 - (intOf v20).toNat)
    case atStart => exact ⟨0, i, a12, c12, by omega, Nat.zero_le _, hi4, rfl, rfl, H2⟩
    case round =>
      obtain ⟨t, m, a12, c12, ht2, htd, hm4, rfl, rfl, HS⟩ := hrel
      obtain ⟨w6, hw6⟩ : ∃ W, W = wr := ⟨_, rfl⟩
      subst hw6
      clear H2
      obtain ⟨-, -, hcap1, hcap2⟩ := HS.out.cap
      by_cases hlt : t < ds.length
      · have t1 : (t : Int) < (ds.length : Int) := by omega
        by_cases h200 : t < 200
        · have t2 : (t : Int) < 200 := by omega
          obtain ⟨g, o, rfl, hcells⟩ := HD.out t hlt
          have hdk := HF.out _ (List.getElem_mem hlt)
          obtain ⟨d0, d1, d2, d3⟩ := hcells w6 HS.out.below
          generalize ds[t] = d at *
          obtain ⟨dk, dw, dx, dv⟩ := d
          dsimp only at d0 d1 d2 d3
          obtain ⟨b0, b1, b2, -⟩ := hdk
          dsimp only at b0 b1 b2
          have JP := hide (fun W => pick_any dk 3 W b0.1 b0.2 (by omega) (by omega))
          have hk3 : pk dk 3 < 3 := pk_lt dk (by omega)
          generalize pk dk 3 = kk at *
          have e4 : IntKind.i64.wrap (2 + (kk : Int)) = 2 + (kk : Int) := by rw [IntKind.wrap_i64]; omega
          have J21 : Hid (∀ W, Below w6.heap.size w6 W → Calls Tryz.prog 21 #[.pointer (some ⟨gb, 0, none⟩), .slice a12 m c12, .agg #[.int .i64 (2 + (kk : Int)), .int .i64 dw, .int .i64 dx, .int .i64 dv]] W fun e w' => ∃ m' a' c' z, e = .returned (.tuple #[.slice a' m' c', .int .i64 z]) ∧ m' ≤ 40 ∧ Hid (St2 w ga gb S w' i m' (.slice a' m' c') (t + 1))) := fun W hW => by
            refine ((HS.out.later hW).deed ht2 kk hk3 dw dx dv b1 b2).mono ?_
            rintro e w' ⟨m', v', z, rfl, hst⟩
            obtain ⟨a', n', c', rfl⟩ : ∃ a' n' c', v' = .slice a' n' c' := by
              obtain ⟨oa, ob, gs, gs', fr', A, Ca, Cb, h, -⟩ := hst
              exact own_slice h.2.2.2.1
            obtain ⟨rfl, hm', -⟩ := hst.cap
            exact ⟨_, a', c', z, rfl, hm', hst⟩
          obtain ⟨wd, hwd⟩ : ∃ X, X = w6.alloc (.cells #[.int .i64 dk, .int .i64 dw, .int .i64 dx, .int .i64 dv] 69) := ⟨_, rfl⟩
          have BD : Hid (Below w6.heap.size w6 wd) := hwd ▸ below_alloc w6 _
          have hxd : wd.heap[w6.heap.size]? = some (.cells #[.int .i64 dk, .int .i64 dw, .int .i64 dx, .int .i64 dv] 69 (0, 0)) := by rw [hwd]; exact heap_alloc_new w6 _
          obtain ⟨kd, hkd⟩ : ∃ k, k = w6.heap.size := ⟨_, rfl⟩
          rw [← hkd] at hxd
          obtain ⟨x0, x1, x2, x3⟩ := box4 hxd (Below.refl _ wd)
          have BS : Hid (Below w6.heap.size w6 (wd.setCell ⟨kd, 0, none⟩ (.int .i64 (2 + (kk : Int))))) := BD.out.trans ((Mv.set (S := fun j => j = kd) (Mv.refl wd _) rfl 0 _).below BD.out.size (fun j e => by omega))
          have fz := frozen_of_row wd kd 0 _ 69 hxd
          clear hxd hcells b0 b1 b2 hk3 HS BD
          go_upto_region 25 with fail
          rw [← hwd, ← hkd]
          clear d0 d1 d2 d3 hwd hkd
          go_wp2_with fail
          refine (JP.out _).mono ?_
          rintro e w' ⟨rfl, h5⟩
          rw [h5]
          clear h5 JP w'
          go_wp2_with fail
          refine (J21.out _ BS.out).mono ?_
          rintro e w8 ⟨m', a', c', z, rfl, hm', HS'⟩
          clear J21 BS x0 x1 x2 x3
          have t4 : ¬ (m' : Int) > 40 := by omega
          obtain ⟨-, -, hcap3, hcap4⟩ := HS'.out.cap
          go_wp2_with fail
          go_roundw
          case rel => exact ⟨t + 1, m', a', c', by omega, by omega, hm', by go_num, rfl, HS'⟩
          case measure => simp [intOf]; omega
        · have t2 : ¬ (t : Int) < 200 := by omega
          go_wp2_with fail
          go_meet
          exact ⟨m, a12, c12, hm4, rfl, t, ht2, HS.out⟩
      · have t1 : ¬ (t : Int) < (ds.length : Int) := by omega
        go_wp2_with fail
        go_meet
        exact ⟨m, a12, c12, hm4, rfl, t, ht2, HS.out⟩
  clear H2
  obtain ⟨m, a12, c12, hm4, rfl, HS2⟩ := hcut
  by_cases hS0 : S.length = 0
  · have t0 : ((S.length : Int) == 0) = true := by rw [beq_iff_eq]; omega
    have hi0 : i = 0 := by omega
    subst hi0
    obtain ⟨l0, hl0⟩ := snap_bytes [] [] (fun _ => none) ⟨[], List.Pairwise.nil, List.nodup_nil, fun e _ => ⟨fun h => (by cases h), fun h => (by cases h)⟩, fun e h => (by cases h)⟩
    have CE := hide hl0
    have CA : Hid (∀ W, Below wc.heap.size wc W → Calls Tryz.prog 13 #[.pointer (some ⟨ga, 0, none⟩)] W fun e w' => ∃ v, e = .returned v ∧ (Pak.Bs w' v l0 ∧ True) ∧ Below W.heap.size W w') := fun W hW => by
      obtain ⟨t, -, oa, ob, gs, gs', fr', A, Ca, Cb, h1, -, -, -, -, h6⟩ := HS2.out
      obtain ⟨rfl, rfl, -⟩ := h6 rfl
      exact hl0 W _ ga _ (h1.1.later hW)
    have C2 : Hid (∀ W, Below wc.heap.size wc W → Calls Tryz.prog 25 #[] W fun e w' => ∃ ge, e = .returned (.pointer (some ⟨ge, 0, none⟩)) ∧ (∃ own, Wn w' own ge 0 usualK [] [] (fun _ => none)) ∧ Below W.heap.size W w') := fun W _ => by
      refine (emptied_any W).mono ?_
      rintro e w' ⟨ge, rfl, ⟨own, -, h⟩, hb⟩
      exact ⟨ge, rfl, ⟨own, h⟩, hb⟩
    have HBW : Hid (Below w.heap.size w wc) := by
      obtain ⟨t, -, hs⟩ := HS2.out
      exact hs.below
    have SS0 : Hid (∀ W : World, Below wc.heap.size wc W → (Below wc.heap.size wc W ∧ True)) := fun W hW => ⟨hW, trivial⟩
    clear hl0 HS2 HI40 hS0
    go_upto_region 30 with fail
    refine wp_region_noPanic ?_
    refine wp_region_held_drew (S := (fun W => Below wc.heap.size wc W ∧ True)) (by kernel_rfl) (SS0.out _ ⟨rfl, rfl, rfl, Nat.le_refl _, fun _ _ => rfl⟩) (fun hHeld => ?_)
    refine' wpAnyH_take (i := 0) (oi := { dst := some 147, op := Op.move (Operand.tmp 8), type := 37, pos := "keeps.go:123", after := #[], guard := none }) (v := _) rfl (by kernel_rfl) (by kernel_rfl) (by kernel_rfl) (fun _ _ _ h => h) (Or.inl ⟨by rfl, ?hyR_0⟩) (by assumption) ?reR_0
    case hyR_0 => (intro W hSw; (try dsimp only at hSw); go_simp; try with_reducible rfl)
    try simp only [Act.put, List.setIfInBounds_toArray, List.set_cons_zero, List.set_cons_succ]
    refine wpAnyH_ready (rs := [1]) (by kernel_rfl) (by simp) ?_
    refine AllReadyH.cons (o := { dst := some 148, op := Op.call { callee := Callee.value (Operand.func 13), args := #[Operand.tmp 147], argTypes := #[37] }, type := 51, pos := "keeps.go:123", after := #[{ on := 0, ground := Ground.data }], guard := none }) rfl (fun K hK => ?_) AllReadyH.nil
    go_simp
    go_at_call 13
    refine (CA.out wc.drew ⟨rfl, rfl, rfl, Nat.le_refl _, fun _ _ => rfl⟩).mono ?_
    clear hHeld
    rintro e x1 ⟨v1, rfl, dx1, bx1⟩
    have Xx1 : Hid (Below wc.heap.size wc x1) := ⟨bx1.os, bx1.tape, bx1.output, bx1.size, bx1.block⟩
    have BWx1 : Hid (Below wc.heap.size wc x1) := Xx1.out
    have SSx1 : Hid (∀ W : World, Below x1.heap.size x1 W → (Below x1.heap.size x1 W ∧ (convert 51 9 v1).run Tryz.prog W = .ok (.string ⟨l0.toArray⟩) W ∧ True)) := fun W hW => ⟨hW, Pak.conv_bs (dx1.1.below hW (Nat.le_refl _)), (SS0.out W (Xx1.out.trans (hW.mono Xx1.out.size))).2⟩
    refine hK.out _ _ (SS0.out x1 Xx1.out) (fun _ => ?_)
    refine wpAnyH_more (S' := fun W => Below x1.heap.size x1 W ∧ (convert 51 9 v1).run Tryz.prog W = .ok (.string ⟨l0.toArray⟩) W ∧ True) (fun W hW => SS0.out W (Xx1.out.trans (hW.1.mono Xx1.out.size))) _ _ _ _ ?_
    have hHeld := SSx1.out x1 (Below.refl _ _)
    clear hK K dx1 bx1
    try simp only [Act.put, List.setIfInBounds_toArray, List.set_cons_zero, List.set_cons_succ]
    refine' wpAnyH_take (i := 2) (oi := { dst := some 149, op := Op.convert 51 9 (Operand.tmp 148), type := 9, pos := "keeps.go:123", after := #[{ on := 1, ground := Ground.data }], guard := none }) (v := _) rfl (by kernel_rfl) (by kernel_rfl) (by kernel_rfl) (fun _ _ _ h => h) (Or.inl ⟨by rfl, ?hyR_2⟩) (by assumption) ?reR_2
    case hyR_2 => (intro W hSw; (try dsimp only at hSw); go_simp; try with_reducible rfl)
    try simp only [Act.put, List.setIfInBounds_toArray, List.set_cons_zero, List.set_cons_succ]
    refine wpAnyH_ready (rs := [3]) (by kernel_rfl) (by simp) ?_
    refine AllReadyH.cons (o := { dst := some 150, op := Op.call { callee := Callee.value (Operand.func 25), args := #[], argTypes := #[] }, type := 37, pos := "keeps.go:123", after := #[{ on := 1, ground := Ground.chain }], guard := none }) rfl (fun K hK => ?_) AllReadyH.nil
    go_simp
    go_at_call 25
    refine (C2.out x1 BWx1.out).mono ?_
    clear hHeld
    rintro e x2 ⟨ge, rfl, dx2, bx2⟩
    have Xx2 : Hid (Below x1.heap.size x1 x2) := ⟨bx2.os, bx2.tape, bx2.output, bx2.size, bx2.block⟩
    have BWx2 : Hid (Below wc.heap.size wc x2) := BWx1.out.trans (Xx2.out.mono BWx1.out.size)
    have Dx2 := hide dx2
    have SSx2 : Hid (∀ W : World, Below x2.heap.size x2 W → (Below x2.heap.size x2 W ∧ (convert 51 9 v1).run Tryz.prog W = .ok (.string ⟨l0.toArray⟩) W ∧ True)) := fun W hW => ⟨hW, (SSx1.out W (Xx2.out.trans (hW.mono Xx2.out.size))).2⟩
    refine hK.out _ _ (SSx1.out x2 Xx2.out) (fun _ => ?_)
    refine wpAnyH_more (S' := fun W => Below x2.heap.size x2 W ∧ (convert 51 9 v1).run Tryz.prog W = .ok (.string ⟨l0.toArray⟩) W ∧ True) (fun W hW => SSx1.out W (Xx2.out.trans (hW.1.mono Xx2.out.size))) _ _ _ _ ?_
    have hHeld := SSx2.out x2 (Below.refl _ _)
    clear hK K dx2 bx2
    obtain ⟨ow2, hW2⟩ := Dx2.out
    have C3 := hide (CE.out x2 ow2 ge 0 hW2)
    clear hW2
    try simp only [Act.put, List.setIfInBounds_toArray, List.set_cons_zero, List.set_cons_succ]
    refine wpAnyH_ready (rs := [4]) (by kernel_rfl) (by simp) ?_
    refine AllReadyH.cons (o := { dst := some 151, op := Op.call { callee := Callee.value (Operand.func 13), args := #[Operand.tmp 150], argTypes := #[37] }, type := 51, pos := "keeps.go:123", after := #[{ on := 3, ground := Ground.data }, { on := 3, ground := Ground.chain }], guard := none }) rfl (fun K hK => ?_) AllReadyH.nil
    go_simp
    go_at_call 13
    refine C3.out.mono ?_
    clear hHeld
    rintro e x3 ⟨v3, rfl, dx3, bx3⟩
    have Xx3 : Hid (Below x2.heap.size x2 x3) := ⟨bx3.os, bx3.tape, bx3.output, bx3.size, bx3.block⟩
    have BWx3 : Hid (Below wc.heap.size wc x3) := BWx2.out.trans (Xx3.out.mono BWx2.out.size)
    have SSx3 : Hid (∀ W : World, Below x3.heap.size x3 W → (Below x3.heap.size x3 W ∧ (convert 51 9 v3).run Tryz.prog W = .ok (.string ⟨l0.toArray⟩) W ∧ (convert 51 9 v1).run Tryz.prog W = .ok (.string ⟨l0.toArray⟩) W ∧ True)) := fun W hW => ⟨hW, Pak.conv_bs (dx3.1.below hW (Nat.le_refl _)), (SSx2.out W (Xx3.out.trans (hW.mono Xx3.out.size))).2⟩
    refine hK.out _ _ (SSx2.out x3 Xx3.out) (fun _ => ?_)
    refine wpAnyH_more (S' := fun W => Below x3.heap.size x3 W ∧ (convert 51 9 v3).run Tryz.prog W = .ok (.string ⟨l0.toArray⟩) W ∧ (convert 51 9 v1).run Tryz.prog W = .ok (.string ⟨l0.toArray⟩) W ∧ True) (fun W hW => SSx2.out W (Xx3.out.trans (hW.1.mono Xx3.out.size))) _ _ _ _ ?_
    have hHeld := SSx3.out x3 (Below.refl _ _)
    clear hK K dx3 bx3
    try simp only [Act.put, List.setIfInBounds_toArray, List.set_cons_zero, List.set_cons_succ]
    refine' wpAnyH_take (i := 5) (oi := { dst := some 152, op := Op.convert 51 9 (Operand.tmp 151), type := 9, pos := "keeps.go:123", after := #[{ on := 4, ground := Ground.data }], guard := none }) (v := _) rfl (by kernel_rfl) (by kernel_rfl) (by kernel_rfl) (fun _ _ _ h => h) (Or.inl ⟨by rfl, ?hyR_5⟩) (by assumption) ?reR_5
    case hyR_5 => (intro W hSw; (try dsimp only at hSw); go_simp; try with_reducible rfl)
    try simp only [Act.put, List.setIfInBounds_toArray, List.set_cons_zero, List.set_cons_succ]
    refine' wpAnyH_take (i := 6) (oi := { dst := some 153, op := Op.binOp BinOp.eql 9 (Operand.tmp 149) (Operand.tmp 152) 9, type := 4, pos := "keeps.go:123", after := #[{ on := 2, ground := Ground.data }, { on := 5, ground := Ground.data }], guard := none }) (v := _) rfl (by kernel_rfl) (by kernel_rfl) (by kernel_rfl) (fun _ _ _ h => h) (Or.inl ⟨by rfl, ?hyR_6⟩) (by assumption) ?reR_6
    case hyR_6 => (intro W hSw; (try dsimp only at hSw); go_simp; try with_reducible rfl)
    try simp only [Act.put, List.setIfInBounds_toArray, List.set_cons_zero, List.set_cons_succ]
    refine' wpAnyH_take (i := 7) (oi := { dst := some 6, op := Op.assign (Operand.tmp 153), type := 4, pos := "keeps.go:123", after := #[{ on := 6, ground := Ground.data }, { on := 4, ground := Ground.chain }, { on := 0, ground := Ground.phase }, { on := 1, ground := Ground.phase }, { on := 2, ground := Ground.phase }, { on := 3, ground := Ground.phase }, { on := 4, ground := Ground.phase }, { on := 5, ground := Ground.phase }, { on := 6, ground := Ground.phase }], guard := none }) (v := _) rfl (by kernel_rfl) (by kernel_rfl) (by kernel_rfl) (fun _ _ _ h => h) (Or.inl ⟨by rfl, ?hyR_7⟩) (by assumption) ?reR_7
    case hyR_7 => (intro W hSw; (try dsimp only at hSw); go_simp; try with_reducible rfl)
    try simp only [Act.put, List.setIfInBounds_toArray, List.set_cons_zero, List.set_cons_succ]
    refine wpAnyH_done (by kernel_rfl) ?_ _
    refine NoPanic.normal ?_
    go_wp2_with fail
    go_ret
    exact ⟨rfl, below_on HBW.out BWx3.out⟩
  · have t0 : ((S.length : Int) == 0) = false := by rw [beq_eq_false_iff_ne]; omega
    have hL0 : 0 < i := by
      have := HI40.out
      by_cases c : i = 0
      · have := this (by omega)
        omega
      · omega
    obtain ⟨rfl, H3⟩ : m = i ∧ Hid (St3 w ga gb S (rho O) wc m (.slice a12 m c12) 0) := by
      obtain ⟨t, ht, hs⟩ := HS2.out
      have hmi : m = i := by
        obtain ⟨oa, ob, gs, gs', fr', A, Ca, Cb, -, -, -, -, h5, -⟩ := hs
        exact (h5 hL0).1
      subst hmi
      exact ⟨rfl, St3.start hs ht hL0⟩
    obtain ⟨-, -, hcap1, hcap2⟩ : True ∧ True ∧ m ≤ c12 ∧ c12 ≤ 9223372036854775807 := by
      obtain ⟨t, -, hs⟩ := HS2.out
      exact ⟨trivial, trivial, hs.cap.2.2⟩
    clear HS2 HI40
    go_upto_block 6 with fail
    go_cut [22] (fun _ W => Hid (St3 w ga gb S (rho O) W m (.slice a12 m c12) (8 * m)))
    case first =>
      go_wp2_with fail
      go_loopw [22] (fun v22 W => ∃ n : Nat, n ≤ 8 * m ∧ v22 = .int .i64 (n : Int) ∧ Hid (St3 w ga gb S (rho O) W m (.slice a12 m c12) n)) (fun v22 _ => 8 * m - (intOf v22).toNat)
      case atStart => exact ⟨0, by omega, rfl, H3⟩
      case round =>
        obtain ⟨n, hn8, rfl, HS⟩ := hrel
        obtain ⟨w6, hw6⟩ : ∃ W, W = wr := ⟨_, rfl⟩
        subst hw6
        clear H3
        have e8 : IntKind.i64.wrap (8 * (m : Int)) = 8 * (m : Int) := by rw [IntKind.wrap_i64]; omega
        by_cases hlt : n < 8 * m
        · have t1 : (n : Int) < 8 * (m : Int) := by omega
          obtain ⟨j, hj⟩ : ∃ j, j = n % m := ⟨_, rfl⟩
          obtain ⟨q, hq⟩ : ∃ q, q = n / m := ⟨_, rfl⟩
          have hjm : j < m := by rw [hj]; exact Nat.mod_lt _ hL0
          have hnq : n = q * m + j := by
            have := Nat.div_add_mod n m
            rw [hj, hq, Nat.mul_comm]
            exact this.symm
          have hq8 : q < 8 := by
            rw [hq]
            exact (Nat.div_lt_iff_lt_mul hL0).2 hlt
          have er : (n : Int).tmod (m : Int) = (j : Int) := by rw [hj]; rfl
          have eq : (n : Int).tdiv (m : Int) = (q : Int) := by rw [hq]; rfl
          have ek : (q : Int).tmod 4 = ((q % 4 : Nat) : Int) := rfl
          have tz : ((m : Int) == 0) = false := by rw [beq_eq_false_iff_ne]; omega
          have e4 : IntKind.i64.wrap (4 * (m : Int)) = 4 * (m : Int) := by rw [IntKind.wrap_i64]; omega
          have HNQ := hide hnq
          have HQ8 := hide hq8
          have wj : IntKind.i64.wrap (j : Int) = (j : Int) := by rw [IntKind.wrap_i64]; omega
          have wq : IntKind.i64.wrap (q : Int) = (q : Int) := by rw [IntKind.wrap_i64]; omega
          obtain ⟨g, pa, pb, ha12, y1, y2, hR, hN, hA⟩ := HS.out.at (by omega) hlt j hjm
          subst ha12
          have hkq : q % 4 < 4 := Nat.mod_lt _ (by omega)
          obtain ⟨kq, hkq'⟩ : ∃ k, k = q % 4 := ⟨_, rfl⟩
          rw [← hkq'] at ek hkq
          have HKQ := hide hkq'
          clear hj hq hnq hkq'
          by_cases h4 : n < 4 * m
          · have t2 : (n : Int) < 4 * (m : Int) := by omega
            have t3 : ¬ (n : Int) ≥ 4 * (m : Int) := by omega
            have t33 : decide ((n : Int) ≥ 4 * (m : Int)) = false := by simp; omega
            have wk : IntKind.i64.wrap ((kq : Int) + 1) = (kq : Int) + 1 := by rw [IntKind.wrap_i64]; omega
            have JR : Hid (Calls Tryz.prog 26 #[.pointer (some ⟨gb, 0, none⟩), .agg #[.int .i64 (pa : Int), .int .i64 (pb : Int)], .int .i64 ((kq : Int) + 1)] w6 fun e w' => ∃ z, e = .returned (.int .i64 z) ∧ Hid (St3 w ga gb S (rho O) w' m (.slice (some ⟨g, 0, none⟩) m c12) (n + 1))) := by
              have h1 := HNQ.out
              have hq4 : q < 4 := by
                by_cases c : q < 4
                · exact c
                · have h8 := HQ8.out
                  obtain rfl | rfl | rfl | rfl : q = 4 ∨ q = 5 ∨ q = 6 ∨ q = 7 := by omega
                  all_goals omega
              have : kq = q := by rw [HKQ.out]; exact Nat.mod_eq_of_lt hq4
              refine (hR h4 kq hkq (by rw [this]; exact h1)).mono ?_
              rintro e w' ⟨⟨z, rfl⟩, hs⟩
              exact ⟨z, rfl, hs⟩
            clear hR hN hA HS HNQ HKQ HQ8 hq8
            go_wp2_with fail
            refine JR.out.mono ?_
            rintro e w7 ⟨z, rfl, HS7⟩
            go_wp2_with fail
            go_roundw
            case rel => exact ⟨n + 1, by omega, by go_num, HS7⟩
            case measure => simp [intOf]; omega
          · skip
            have t2 : ¬ (n : Int) < 4 * (m : Int) := by omega
            have t3 : (n : Int) ≥ 4 * (m : Int) := by omega
            have t33 : decide ((n : Int) ≥ 4 * (m : Int)) = true := by simp; omega
            have hnm : n = (4 + kq) * m + j := by
              have h1 := HNQ.out
              have h8 := HQ8.out
              have hk := HKQ.out
              obtain rfl | rfl | rfl | rfl | rfl | rfl | rfl | rfl : q = 0 ∨ q = 1 ∨ q = 2 ∨ q = 3 ∨ q = 4 ∨ q = 5 ∨ q = 6 ∨ q = 7 := by omega
              all_goals
                simp only [Nat.reduceMod] at hk
                subst hk
                omega
            obtain ⟨k2, hk2⟩ : ∃ k, k = (kq + rho O j) % 4 := ⟨_, rfl⟩
            have hk24 : k2 < 4 := by rw [hk2]; exact Nat.mod_lt _ (by omega)
            have HN := hide (hN kq hkq hnm)
            have HAA := hide (hA kq hkq hnm)
            rw [← hk2] at HN HAA
            have HK2 := hide hk2
            have HBW := hide HS.out.below
            clear hR hN hA HS HNQ HKQ HQ8 hq8 hk2 hnm
            go_upto_if 179 with fail
            go_cut [24] (fun v24 W => v24 = .int .i64 (k2 : Int) ∧ Hid (W = w6))
            case first =>
              clear HN HAA y1 y2
              by_cases hO : O.length = 0
              · have t5 : ¬ (O.length : Int) > 0 := by omega
                have hkk : kq = k2 := by
                  have := HK2.out
                  rw [rho_nil hO] at this
                  omega
                subst hkk
                clear hO
                go_wp2_with fail
                go_meet
                exact ⟨rfl, rfl⟩
              · have t5 : (O.length : Int) > 0 := by omega
                have hO0 : 0 < O.length := by omega
                obtain ⟨jo, hjo⟩ : ∃ jo, jo = j % O.length := ⟨_, rfl⟩
                have hjl : jo < O.length := by rw [hjo]; exact Nat.mod_lt _ hO0
                have eo : (j : Int).tmod (O.length : Int) = (jo : Int) := by rw [hjo]; rfl
                have zo : ((O.length : Int) == 0) = false := by rw [beq_eq_false_iff_ne]; omega
                obtain ⟨go, oo, rfl, hco⟩ := HO.out jo hjl
                have q1 := hco w6 HBW.out
                have hB := HOB.out _ (List.getElem_mem hjl)
                have hrho : rho O j = pk O[jo] 4 := by
                  subst hjo
                  exact rho_at hO0 hjl
                have hr4 : pk O[jo] 4 < 4 := pk_lt _ (by omega)
                have JO : Hid (∀ W, Calls Tryz.prog 16 #[.int .i64 O[jo], .int .i64 4] W fun e w' => e = .returned (.int .i64 (pk O[jo] 4 : Int)) ∧ w' = W) := fun W => pick_any O[jo] 4 W hB.1 hB.2 (by omega) (by omega)
                have hk := HK2.out
                rw [hrho] at hk
                generalize pk O[jo] 4 = r at *
                generalize O[jo] = xo at *
                have ew : IntKind.i64.wrap ((kq : Int) + (r : Int)) = (kq : Int) + (r : Int) := by rw [IntKind.wrap_i64]; omega
                have em : ((kq : Int) + (r : Int)).tmod 4 = (k2 : Int) := by rw [hk]; rfl
                have wjo : IntKind.i64.wrap (jo : Int) = (jo : Int) := by rw [IntKind.wrap_i64]; omega
                have tj : (jo : Int) < (O.length : Int) := by omega
                clear hco hB hrho hk hjo hO hO0
                go_wp2_with fail
                refine (JO.out _).mono ?_
                rintro e w7 ⟨rfl, h7⟩
                rw [h7]
                clear h7 w7
                go_wp2_with fail
                go_meet
                exact ⟨rfl, rfl⟩
            obtain ⟨rfl, HW6⟩ := hcut
            obtain rfl : w6 = wc := HW6.out.symm
            clear HW6
            have hjS : j < S.length := by omega
            have hp16 : pk (S.getD j 0) 16 < 16 := pk_lt _ (by omega)
            obtain ⟨x, hx⟩ : ∃ x, x = pk (S.getD j 0) 16 := ⟨_, rfl⟩
            have hbx : bitS S j k2 = x.testBit k2 := by rw [hx]; rfl
            have JP : Hid (∀ W, Calls Tryz.prog 16 #[.int .i64 (S[j]), .int .i64 16] W fun e w' => e = .returned (.int .i64 (x : Int)) ∧ w' = W) := fun W => by
              have hB := HSB.out _ (List.getElem_mem hjS)
              have := pick_any S[j] 16 W hB.1 hB.2 (by omega) (by omega)
              rw [hx, List.getD_eq_getElem?_getD, List.getElem?_eq_getElem hjS, Option.getD_some]
              exact this
            rw [← hx] at hp16
            obtain ⟨g0, o0, rfl, hcell⟩ := HA.out j hjS
            have q1 := hcell w6 HBW.out
            have e1 := bit_eq x k2 (by omega)
            have t6 : ¬ (k2 : Int) < 0 := by omega
            have tjS : (j : Int) < (S.length : Int) := by omega
            rw [hbx] at HN HAA
            clear hx hcell hbx
            generalize S[j] = sj at *
            cases hb : x.testBit k2 with
            | false =>
              rw [hb] at e1
              have HS7 := hide (HN.out hb)
              clear hb HN HAA
              go_wp2_with fail
              refine (JP.out _).mono ?_
              rintro e w7 ⟨rfl, h7⟩
              rw [h7]
              clear h7 w7
              go_wp2_with fail
              go_roundw
              case rel => exact ⟨n + 1, by omega, by go_num, HS7⟩
              case measure => simp [intOf]; omega
            | true =>
              rw [hb] at e1
              have JQ : Hid (∀ W, Below w6.heap.size w6 W → Calls Tryz.prog 23 #[.int .i64 (k2 : Int), .int .i64 (j : Int)] W fun e w' => ∃ v, e = .returned (.agg #[.int .i64 ((k2 : Int) + 1), v]) ∧ Hid (w'.ownsRow W.heap.size 2 1 v (c4 k2) (zc (valsN (j : Int) (c4 k2)))) ∧ Hid (Below W.heap.size W w') ∧ w'.cell? ⟨g, j * 2, none⟩ = some (.int .i64 (pa : Int)) ∧ w'.cell? ⟨g, j * 2 + 1, none⟩ = some (.int .i64 (pb : Int))) := fun W hW => by
                have := part_any (k2 : Int) (j : Int) W (by omega) (by omega)
                rw [pk_small k2 hk24] at this
                refine this.mono ?_
                rintro e w' ⟨v, rfl, ho, hb'⟩
                have hm := Mv.of_below (below_on hW hb') (fun _ => False)
                exact ⟨v, rfl, ho, hb', hm.cell y1 (fun e => e), hm.cell y2 (fun e => e)⟩
              have J9 := hide (HAA.out hb)
              clear hb HN HAA
              go_wp2_with fail
              refine (JP.out _).mono ?_
              rintro e w7 ⟨rfl, h7⟩
              rw [h7]
              clear h7 w7
              go_upto_region 41 with fail
              go_region_held3 (fun W => W.cell? ⟨g, j * 2, none⟩ = some (.int .i64 (pa : Int)) ∧ W.cell? ⟨g, j * 2 + 1, none⟩ = some (.int .i64 (pb : Int))) (go_keep) (first | (go_at_call 23; refine (JQ.out _ (below_drew w6)).mono ?_; rintro e w8 ⟨v8, rfl, HO8, HB8, z1, z2⟩; obtain ⟨av, nv, cv, rfl⟩ := own_slice HO8.out) | (go_at_call 27; refine (J9.out _ _ _ _ _ (below_drew w6) HB8.out HO8.out).mono ?_; rintro e w9 ⟨rfl, hst, z3, z4⟩; have HS9 := hide hst; clear hst))
              go_wp2_with fail
              go_roundw
              case rel => exact ⟨n + 1, by omega, by go_num, HS9⟩
              case measure => simp [intOf]; omega
        · have t1 : ¬ (n : Int) < 8 * (m : Int) := by omega
          obtain rfl : n = 8 * m := by omega
          go_wp2_with fail
          go_meet
          exact HS
    clear H3
    have H9 := hide (hcut.out.done hL0)
    clear hcut
    obtain ⟨oa, ob, gs, C, N, hWa, hWb, hBB⟩ := H9.out
    have HBW := hide hBB
    have HLV := hide hWa.lv
    have HGS := hide hWa.ok.2.2.1
    have JR1 : Hid (∀ W, Below wc.heap.size wc W → Calls Tryz.prog 29 #[.pointer (some ⟨ga, 0, none⟩)] W fun e w' => ∃ v, e = .returned v ∧ Hid (∃ R, Rc W.heap.size w' usualK C v R) ∧ Hid (Below W.heap.size W w')) := fun W hW => (hWa.later hW).rows
    have JR2 : Hid (∀ W, Below wc.heap.size wc W → Calls Tryz.prog 29 #[.pointer (some ⟨gb, 0, none⟩)] W fun e w' => ∃ v, e = .returned v ∧ Hid (∃ R, Rc W.heap.size w' usualK C v R) ∧ Hid (Below W.heap.size W w')) := fun W hW => (hWb.later hW).rows
    have shp : ∀ (g : Nat) (o : Nat → Nat), Wn wc o g N usualK gs [] C → ∀ W, Below wc.heap.size wc W → Calls Tryz.prog 30 #[.pointer (some ⟨g, 0, none⟩)] W fun e w' => ∃ f n, e = .returned (.map (some W.heap.size)) ∧ Hid (n ≤ 8192 ∧ Mi w' W.heap.size n f ∧ Cs C f) ∧ Hid (Below W.heap.size W w') := fun g o hw W hW => by
      refine (hw.later hW).shapes.mono ?_
      rintro e w' ⟨f, n, rfl, h1, h2, h3, h4⟩
      exact ⟨f, n, rfl, ⟨h1, h2, h3⟩, h4⟩
    have JS1 := hide (shp ga oa hWa)
    have JS2 := hide (shp gb ob hWb)
    have SN : Hid (∀ l : List UInt8, (∀ (W : World) (own' : Nat → Nat) (gw' N' : Nat), Wn W own' gw' N' usualK gs [] C → Calls Tryz.prog 13 #[.pointer (some ⟨gw', 0, none⟩)] W fun e w' => ∃ v, e = .returned v ∧ (Pak.Bs w' v l ∧ True) ∧ Below W.heap.size W w') → ∀ W, Below wc.heap.size wc W → (Calls Tryz.prog 13 #[.pointer (some ⟨ga, 0, none⟩)] W fun e w' => ∃ v, e = .returned v ∧ (Pak.Bs w' v l ∧ True) ∧ Below W.heap.size W w') ∧ Calls Tryz.prog 13 #[.pointer (some ⟨gb, 0, none⟩)] W fun e w' => ∃ v, e = .returned v ∧ (Pak.Bs w' v l ∧ True) ∧ Below W.heap.size W w') := fun l hl W hW => ⟨hl W _ ga N (hWa.later hW), hl W _ gb N (hWb.later hW)⟩
    clear hWa hWb hBB shp H9 hS0
    go_wp2_with fail
    refine (JR1.out _ (Below.refl _ _)).mono ?_
    rintro e r1 ⟨y1, rfl, HR1, HB1⟩
    clear JR1
    go_wp2_with fail
    refine (JR2.out _ HB1.out).mono ?_
    rintro e r2 ⟨y2, rfl, HR2, HB2⟩
    clear JR2
    have JM : Hid (Calls Tryz.prog 28 #[y1, y2] r2 fun e w' => e = .returned (.bool true) ∧ Hid (Below r2.heap.size r2 w')) := by
      obtain ⟨R1, h1⟩ := HR1.out
      obtain ⟨R2, h2⟩ := HR2.out
      have h1' := h1.later HB2.out
      obtain ⟨q1, q2⟩ := rc_same HLV.out h1' h2
      have hcn : R1.length ≤ 200 := by
        have := lives_cnt HLV.out HGS.out (R1.map entR) h1.2.1.2.1 (fun e he => (h1.2.1.2.2.1 e (h1.2.1.2.2.2 e he)).2 he)
        rwa [List.length_map] at this
      exact same_rows y1 y2 R1 R2 _ _ r2 h1'.1 h2.1 q1 (by omega) q2
    obtain ⟨l1, hl1⟩ : ∃ l : List UInt8, ∀ (W : World) (own' : Nat → Nat) (gw' N' : Nat), Wn W own' gw' N' usualK gs [] C → Calls Tryz.prog 13 #[.pointer (some ⟨gw', 0, none⟩)] W fun e w' => ∃ v, e = .returned v ∧ (Pak.Bs w' v l ∧ True) ∧ Below W.heap.size W w' := by
      obtain ⟨R1, h1⟩ := HR1.out
      exact snap_bytes gs [] C ⟨_, h1.2.1⟩
    have SL := hide (SN.out l1 hl1)
    clear hl1 SN HR1 HR2 HLV HGS
    go_wp2_with fail
    refine JM.out.mono ?_
    rintro e r3 ⟨rfl, HB3⟩
    have B3 : Hid (Below wc.heap.size wc r3) := below_on (below_on HB1.out HB2.out) HB3.out
    clear JM HB1 HB2 HB3
    go_wp2_with fail
    refine (JS1.out _ B3.out).mono ?_
    rintro e r4 ⟨f1, n1, rfl, HM1, HB4⟩
    have B4 : Hid (Below wc.heap.size wc r4) := below_on B3.out HB4.out
    obtain ⟨k1, hk1⟩ : ∃ k, k = r3.heap.size := ⟨_, rfl⟩
    rw [← hk1] at HM1 ⊢
    clear JS1 B3 HB4 hk1
    go_wp2_with fail
    refine (JS2.out _ B4.out).mono ?_
    rintro e r5 ⟨f2, n2, rfl, HM2, HB5⟩
    have B5 : Hid (Below wc.heap.size wc r5) := below_on B4.out HB5.out
    obtain ⟨k2, hk2⟩ : ∃ k, k = r4.heap.size := ⟨_, rfl⟩
    rw [← hk2] at HM2 ⊢
    have m1 : Mi r5 k1 n1 f1 := HM1.out.2.1.kept (grown_later HB5.out) (by simp)
    have m2 : Mi r5 k2 n2 f1 := by
      have := Cs.eq HM1.out.2.2 HM2.out.2.2
      rw [this]
      exact HM2.out.2.1
    obtain ⟨z, hz1', hz2'⟩ := m1.len m2
    have HZ1 := hide hz1'
    have HZ2 := hide hz2'
    have M2 := hide m2
    obtain ⟨D, hD, hcl, hkl⟩ := m1
    have HCL := hide hcl
    have HKL := hide hkl
    clear JS2 B4 HB5 hk2 HM1 HM2 m2 hz1' hz2' hcl hkl
    have hkr : k1 < r5.heap.size := hD.lt
    have hkr2 : k2 < r5.heap.size := M2.out.lt
    go_wp2_with (at_range; refine wpList_range_own _ rfl _ 80 rfl 3 3 keyed3 Tryz.underlying80 _ k1 n1 D rfl hD ?_; intro w0 hrg0 hg0 hs0)
    have H0 : Hid ((∃ cnt, Rn w0 k1 r5.heap.size n1 f1 cnt) ∧ Below r5.heap.size r5 w0) := ⟨⟨_, Rn.start HCL.out HKL.out hrg0⟩, (Below.refl _ r5).grown hg0 (Nat.le_refl _) (fun k e => by cases e)⟩
    obtain ⟨kr, hkrr⟩ : ∃ k, k = r5.heap.size := ⟨_, rfl⟩
    have HKR := hide hkrr
    clear hrg0 hg0 hs0 HCL HKL hD
    go_frame
    rw [← hkrr] at H0 hkr hkr2 ⊢
    clear hkrr
    go_loopw [29] (fun _ W => Hid ((∃ cnt, Rn W k1 kr n1 f1 cnt) ∧ Below kr r5 W)) (fun _ W => W.rangeLeft k1 kr)
    case atStart => exact H0
    case round =>
      obtain ⟨w9, hw9⟩ : ∃ W, W = wr := ⟨_, rfl⟩
      subst hw9
      clear H0
      have hrel' := hrel.out
      rw [HKR.out] at hrel'
      obtain ⟨⟨cnt, hRn⟩, hB9⟩ := hrel'
      rw [← HKR.out] at hRn
      have HB9 := hide hB9
      have hkk : kr = r5.heap.size := HKR.out
      rcases hRn.next 0 with ⟨n1', n2'⟩ | ⟨s, i2, w1', cnt1, n1', n2', n4, n5, n6, n7, n8, n9⟩
      · have CA : Hid (∀ W, Below w9.heap.size w9 W → Calls Tryz.prog 13 #[.pointer (some ⟨ga, 0, none⟩)] W fun e w' => ∃ v, e = .returned v ∧ (Pak.Bs w' v l1 ∧ True) ∧ Below W.heap.size W w') := fun W hW => (SL.out W (below_on (below_on B5.out HB9.out) hW)).1
        have CB : Hid (∀ W, Below w9.heap.size w9 W → Calls Tryz.prog 13 #[.pointer (some ⟨gb, 0, none⟩)] W fun e w' => ∃ v, e = .returned v ∧ (Pak.Bs w' v l1 ∧ True) ∧ Below W.heap.size W w') := fun W hW => (SL.out W (below_on (below_on B5.out HB9.out) hW)).2
        have SS0 : Hid (∀ W : World, Below w9.heap.size w9 W → (Below w9.heap.size w9 W ∧ (Builtin.len_ #[80] 3 #[.map (some k1)]).run Tryz.prog W = .ok (.int .i64 (z : Int)) W ∧ (Builtin.len_ #[80] 3 #[.map (some k2)]).run Tryz.prog W = .ok (.int .i64 (z : Int)) W ∧ True)) := fun W hW => ⟨hW, HZ1.out W (below_on HB9.out hW), HZ2.out W (below_on HB9.out hW), trivial⟩
        have HE : Hid (∀ W, Below w9.heap.size w9 W → Below w.heap.size w W) := fun W hW => below_on (below_on HBW.out (below_on B5.out HB9.out)) hW
        clear hRn hB9 HB9 hrel n1' SL B5 HBW HZ1 HZ2 HKR hkk M2
        go_upto_region 52 with fail
        refine wp_region_noPanic ?_
        refine wp_region_held_drew (S := (fun W => Below w9.heap.size w9 W ∧ (Builtin.len_ #[80] 3 #[.map (some k1)]).run Tryz.prog W = .ok (.int .i64 (z : Int)) W ∧ (Builtin.len_ #[80] 3 #[.map (some k2)]).run Tryz.prog W = .ok (.int .i64 (z : Int)) W ∧ True)) (by kernel_rfl) (SS0.out _ ⟨rfl, rfl, rfl, Nat.le_refl _, fun _ _ => rfl⟩) (fun hHeld => ?_)
        refine' wpAnyH_take (i := 0) (oi := { dst := some 245, op := Op.move (Operand.tmp 26), type := 4, pos := "keeps.go:148", after := #[], guard := none }) (v := _) rfl (by kernel_rfl) (by kernel_rfl) (by kernel_rfl) (fun _ _ _ h => h) (Or.inl ⟨by rfl, ?hyZ_0⟩) (by assumption) ?reZ_0
        case hyZ_0 => (intro W hSw; (try dsimp only at hSw); go_simp; try with_reducible rfl)
        try simp only [Act.put, List.setIfInBounds_toArray, List.set_cons_zero, List.set_cons_succ]
        refine' wpAnyH_take (i := 1) (oi := { dst := some 246, op := Op.move (Operand.tmp 245), type := 4, pos := "keeps.go:148", after := #[{ on := 0, ground := Ground.data }], guard := none }) (v := _) rfl (by kernel_rfl) (by kernel_rfl) (by kernel_rfl) (fun _ _ _ h => h) (Or.inl ⟨by rfl, ?hyZ_1⟩) (by assumption) ?reZ_1
        case hyZ_1 => (intro W hSw; (try dsimp only at hSw); go_simp; try with_reducible rfl)
        try simp only [Act.put, List.setIfInBounds_toArray, List.set_cons_zero, List.set_cons_succ]
        refine' wpAnyH_take (i := 2) (oi := { dst := some 247, op := Op.move (Operand.tmp 27), type := 80, pos := "keeps.go:148", after := #[{ on := 1, ground := Ground.guard }], guard := some (1, true) }) (v := _) rfl (by kernel_rfl) (by kernel_rfl) (by kernel_rfl) (fun _ _ _ h => h) (Or.inl ⟨by rfl, ?hyZ_2⟩) (by assumption) ?reZ_2
        case hyZ_2 => (intro W hSw; (try dsimp only at hSw); go_simp; try with_reducible rfl)
        try simp only [Act.put, List.setIfInBounds_toArray, List.set_cons_zero, List.set_cons_succ]
        refine' wpAnyH_take (i := 3) (oi := { dst := some 248, op := Op.call { callee := Callee.builtin Builtin.len, args := #[Operand.tmp 247], argTypes := #[80] }, type := 3, pos := "keeps.go:148", after := #[{ on := 2, ground := Ground.data }, { on := 1, ground := Ground.chain }, { on := 1, ground := Ground.guard }], guard := some (1, true) }) (v := _) rfl (by kernel_rfl) (by kernel_rfl) (by kernel_rfl) (fun _ _ _ h => h) (Or.inl ⟨by rfl, ?hyZ_3⟩) (by assumption) ?reZ_3
        case hyZ_3 => (intro W hSw; (try dsimp only at hSw); go_simp; try with_reducible rfl)
        try simp only [Act.put, List.setIfInBounds_toArray, List.set_cons_zero, List.set_cons_succ]
        refine' wpAnyH_take (i := 4) (oi := { dst := some 249, op := Op.move (Operand.tmp 28), type := 80, pos := "keeps.go:148", after := #[{ on := 1, ground := Ground.guard }], guard := some (1, true) }) (v := _) rfl (by kernel_rfl) (by kernel_rfl) (by kernel_rfl) (fun _ _ _ h => h) (Or.inl ⟨by rfl, ?hyZ_4⟩) (by assumption) ?reZ_4
        case hyZ_4 => (intro W hSw; (try dsimp only at hSw); go_simp; try with_reducible rfl)
        try simp only [Act.put, List.setIfInBounds_toArray, List.set_cons_zero, List.set_cons_succ]
        refine' wpAnyH_take (i := 5) (oi := { dst := some 250, op := Op.call { callee := Callee.builtin Builtin.len, args := #[Operand.tmp 249], argTypes := #[80] }, type := 3, pos := "keeps.go:148", after := #[{ on := 4, ground := Ground.data }, { on := 3, ground := Ground.chain }, { on := 1, ground := Ground.guard }], guard := some (1, true) }) (v := _) rfl (by kernel_rfl) (by kernel_rfl) (by kernel_rfl) (fun _ _ _ h => h) (Or.inl ⟨by rfl, ?hyZ_5⟩) (by assumption) ?reZ_5
        case hyZ_5 => (intro W hSw; (try dsimp only at hSw); go_simp; try with_reducible rfl)
        try simp only [Act.put, List.setIfInBounds_toArray, List.set_cons_zero, List.set_cons_succ]
        refine' wpAnyH_take (i := 6) (oi := { dst := some 251, op := Op.binOp BinOp.eql 3 (Operand.tmp 248) (Operand.tmp 250) 3, type := 4, pos := "keeps.go:148", after := #[{ on := 3, ground := Ground.data }, { on := 5, ground := Ground.data }, { on := 1, ground := Ground.guard }], guard := some (1, true) }) (v := _) rfl (by kernel_rfl) (by kernel_rfl) (by kernel_rfl) (fun _ _ _ h => h) (Or.inl ⟨by rfl, ?hyZ_6⟩) (by assumption) ?reZ_6
        case hyZ_6 => (intro W hSw; (try dsimp only at hSw); go_simp; try with_reducible rfl)
        try simp only [Act.put, List.setIfInBounds_toArray, List.set_cons_zero, List.set_cons_succ]
        refine' wpAnyH_take (i := 7) (oi := { dst := some 252, op := Op.pick (Operand.tmp 246) (Operand.tmp 251) (Operand.const (Value.bool false)), type := 4, pos := "keeps.go:148", after := #[{ on := 1, ground := Ground.data }, { on := 6, ground := Ground.data }], guard := none }) (v := _) rfl (by kernel_rfl) (by kernel_rfl) (by kernel_rfl) (fun _ _ _ h => h) (Or.inl ⟨by rfl, ?hyZ_7⟩) (by assumption) ?reZ_7
        case hyZ_7 => (intro W hSw; (try dsimp only at hSw); go_simp; try with_reducible rfl)
        try simp only [Act.put, List.setIfInBounds_toArray, List.set_cons_zero, List.set_cons_succ]
        refine' wpAnyH_take (i := 8) (oi := { dst := some 253, op := Op.move (Operand.tmp 252), type := 4, pos := "keeps.go:148", after := #[{ on := 7, ground := Ground.data }, { on := 5, ground := Ground.chain }], guard := none }) (v := _) rfl (by kernel_rfl) (by kernel_rfl) (by kernel_rfl) (fun _ _ _ h => h) (Or.inl ⟨by rfl, ?hyZ_8⟩) (by assumption) ?reZ_8
        case hyZ_8 => (intro W hSw; (try dsimp only at hSw); go_simp; try with_reducible rfl)
        try simp only [Act.put, List.setIfInBounds_toArray, List.set_cons_zero, List.set_cons_succ]
        refine' wpAnyH_take (i := 9) (oi := { dst := some 254, op := Op.move (Operand.tmp 8), type := 37, pos := "keeps.go:148", after := #[{ on := 8, ground := Ground.guard }], guard := some (8, true) }) (v := _) rfl (by kernel_rfl) (by kernel_rfl) (by kernel_rfl) (fun _ _ _ h => h) (Or.inl ⟨by rfl, ?hyZ_9⟩) (by assumption) ?reZ_9
        case hyZ_9 => (intro W hSw; (try dsimp only at hSw); go_simp; try with_reducible rfl)
        try simp only [Act.put, List.setIfInBounds_toArray, List.set_cons_zero, List.set_cons_succ]
        refine' wpAnyH_take (i := 12) (oi := { dst := some 257, op := Op.move (Operand.tmp 10), type := 37, pos := "keeps.go:148", after := #[{ on := 8, ground := Ground.guard }], guard := some (8, true) }) (v := _) rfl (by kernel_rfl) (by kernel_rfl) (by kernel_rfl) (fun _ _ _ h => h) (Or.inl ⟨by rfl, ?hyZ_12⟩) (by assumption) ?reZ_12
        case hyZ_12 => (intro W hSw; (try dsimp only at hSw); go_simp; try with_reducible rfl)
        try simp only [Act.put, List.setIfInBounds_toArray, List.set_cons_zero, List.set_cons_succ]
        refine wpAnyH_ready (rs := [10]) (by kernel_rfl) (by simp) ?_
        refine AllReadyH.cons (o := { dst := some 255, op := Op.call { callee := Callee.value (Operand.func 13), args := #[Operand.tmp 254], argTypes := #[37] }, type := 51, pos := "keeps.go:148", after := #[{ on := 9, ground := Ground.data }, { on := 8, ground := Ground.chain }, { on := 8, ground := Ground.guard }], guard := some (8, true) }) rfl (fun K hK => ?_) AllReadyH.nil
        go_simp
        go_at_call 13
        refine (CA.out w9.drew ⟨rfl, rfl, rfl, Nat.le_refl _, fun _ _ => rfl⟩).mono ?_
        clear hHeld
        rintro e x1 ⟨v1, rfl, dx1, bx1⟩
        have Xx1 : Hid (Below w9.heap.size w9 x1) := ⟨bx1.os, bx1.tape, bx1.output, bx1.size, bx1.block⟩
        have BWx1 : Hid (Below w9.heap.size w9 x1) := Xx1.out
        have SSx1 : Hid (∀ W : World, Below x1.heap.size x1 W → (Below x1.heap.size x1 W ∧ (convert 51 9 v1).run Tryz.prog W = .ok (.string ⟨l1.toArray⟩) W ∧ (Builtin.len_ #[80] 3 #[.map (some k1)]).run Tryz.prog W = .ok (.int .i64 (z : Int)) W ∧ (Builtin.len_ #[80] 3 #[.map (some k2)]).run Tryz.prog W = .ok (.int .i64 (z : Int)) W ∧ True)) := fun W hW => ⟨hW, Pak.conv_bs (dx1.1.below hW (Nat.le_refl _)), (SS0.out W (Xx1.out.trans (hW.mono Xx1.out.size))).2⟩
        refine hK.out _ _ (SS0.out x1 Xx1.out) (fun _ => ?_)
        refine wpAnyH_more (S' := fun W => Below x1.heap.size x1 W ∧ (convert 51 9 v1).run Tryz.prog W = .ok (.string ⟨l1.toArray⟩) W ∧ (Builtin.len_ #[80] 3 #[.map (some k1)]).run Tryz.prog W = .ok (.int .i64 (z : Int)) W ∧ (Builtin.len_ #[80] 3 #[.map (some k2)]).run Tryz.prog W = .ok (.int .i64 (z : Int)) W ∧ True) (fun W hW => SS0.out W (Xx1.out.trans (hW.1.mono Xx1.out.size))) _ _ _ _ ?_
        have hHeld := SSx1.out x1 (Below.refl _ _)
        clear hK K dx1 bx1
        try simp only [Act.put, List.setIfInBounds_toArray, List.set_cons_zero, List.set_cons_succ]
        refine' wpAnyH_take (i := 11) (oi := { dst := some 256, op := Op.convert 51 9 (Operand.tmp 255), type := 9, pos := "keeps.go:148", after := #[{ on := 10, ground := Ground.data }, { on := 8, ground := Ground.guard }], guard := some (8, true) }) (v := _) rfl (by kernel_rfl) (by kernel_rfl) (by kernel_rfl) (fun _ _ _ h => h) (Or.inl ⟨by rfl, ?hyZ_11⟩) (by assumption) ?reZ_11
        case hyZ_11 => (intro W hSw; (try dsimp only at hSw); go_simp; try with_reducible rfl)
        try simp only [Act.put, List.setIfInBounds_toArray, List.set_cons_zero, List.set_cons_succ]
        refine wpAnyH_ready (rs := [13]) (by kernel_rfl) (by simp) ?_
        refine AllReadyH.cons (o := { dst := some 258, op := Op.call { callee := Callee.value (Operand.func 13), args := #[Operand.tmp 257], argTypes := #[37] }, type := 51, pos := "keeps.go:148", after := #[{ on := 12, ground := Ground.data }, { on := 10, ground := Ground.chain }, { on := 8, ground := Ground.guard }], guard := some (8, true) }) rfl (fun K hK => ?_) AllReadyH.nil
        go_simp
        go_at_call 13
        refine (CB.out x1 BWx1.out).mono ?_
        clear hHeld
        rintro e x2 ⟨v2, rfl, dx2, bx2⟩
        have Xx2 : Hid (Below x1.heap.size x1 x2) := ⟨bx2.os, bx2.tape, bx2.output, bx2.size, bx2.block⟩
        have BWx2 : Hid (Below w9.heap.size w9 x2) := BWx1.out.trans (Xx2.out.mono BWx1.out.size)
        have SSx2 : Hid (∀ W : World, Below x2.heap.size x2 W → (Below x2.heap.size x2 W ∧ (convert 51 9 v2).run Tryz.prog W = .ok (.string ⟨l1.toArray⟩) W ∧ (convert 51 9 v1).run Tryz.prog W = .ok (.string ⟨l1.toArray⟩) W ∧ (Builtin.len_ #[80] 3 #[.map (some k1)]).run Tryz.prog W = .ok (.int .i64 (z : Int)) W ∧ (Builtin.len_ #[80] 3 #[.map (some k2)]).run Tryz.prog W = .ok (.int .i64 (z : Int)) W ∧ True)) := fun W hW => ⟨hW, Pak.conv_bs (dx2.1.below hW (Nat.le_refl _)), (SSx1.out W (Xx2.out.trans (hW.mono Xx2.out.size))).2⟩
        refine hK.out _ _ (SSx1.out x2 Xx2.out) (fun _ => ?_)
        refine wpAnyH_more (S' := fun W => Below x2.heap.size x2 W ∧ (convert 51 9 v2).run Tryz.prog W = .ok (.string ⟨l1.toArray⟩) W ∧ (convert 51 9 v1).run Tryz.prog W = .ok (.string ⟨l1.toArray⟩) W ∧ (Builtin.len_ #[80] 3 #[.map (some k1)]).run Tryz.prog W = .ok (.int .i64 (z : Int)) W ∧ (Builtin.len_ #[80] 3 #[.map (some k2)]).run Tryz.prog W = .ok (.int .i64 (z : Int)) W ∧ True) (fun W hW => SSx1.out W (Xx2.out.trans (hW.1.mono Xx2.out.size))) _ _ _ _ ?_
        have hHeld := SSx2.out x2 (Below.refl _ _)
        clear hK K dx2 bx2
        try simp only [Act.put, List.setIfInBounds_toArray, List.set_cons_zero, List.set_cons_succ]
        refine' wpAnyH_take (i := 14) (oi := { dst := some 259, op := Op.convert 51 9 (Operand.tmp 258), type := 9, pos := "keeps.go:148", after := #[{ on := 13, ground := Ground.data }, { on := 8, ground := Ground.guard }], guard := some (8, true) }) (v := _) rfl (by kernel_rfl) (by kernel_rfl) (by kernel_rfl) (fun _ _ _ h => h) (Or.inl ⟨by rfl, ?hyZ_14⟩) (by assumption) ?reZ_14
        case hyZ_14 => (intro W hSw; (try dsimp only at hSw); go_simp; try with_reducible rfl)
        try simp only [Act.put, List.setIfInBounds_toArray, List.set_cons_zero, List.set_cons_succ]
        refine' wpAnyH_take (i := 15) (oi := { dst := some 260, op := Op.binOp BinOp.eql 9 (Operand.tmp 256) (Operand.tmp 259) 9, type := 4, pos := "keeps.go:148", after := #[{ on := 11, ground := Ground.data }, { on := 14, ground := Ground.data }, { on := 8, ground := Ground.guard }], guard := some (8, true) }) (v := _) rfl (by kernel_rfl) (by kernel_rfl) (by kernel_rfl) (fun _ _ _ h => h) (Or.inl ⟨by rfl, ?hyZ_15⟩) (by assumption) ?reZ_15
        case hyZ_15 => (intro W hSw; (try dsimp only at hSw); go_simp; try with_reducible rfl)
        try simp only [Act.put, List.setIfInBounds_toArray, List.set_cons_zero, List.set_cons_succ]
        refine' wpAnyH_take (i := 16) (oi := { dst := some 261, op := Op.pick (Operand.tmp 253) (Operand.tmp 260) (Operand.const (Value.bool false)), type := 4, pos := "keeps.go:148", after := #[{ on := 8, ground := Ground.data }, { on := 15, ground := Ground.data }], guard := none }) (v := _) rfl (by kernel_rfl) (by kernel_rfl) (by kernel_rfl) (fun _ _ _ h => h) (Or.inl ⟨by rfl, ?hyZ_16⟩) (by assumption) ?reZ_16
        case hyZ_16 => (intro W hSw; (try dsimp only at hSw); go_simp; try with_reducible rfl)
        try simp only [Act.put, List.setIfInBounds_toArray, List.set_cons_zero, List.set_cons_succ]
        refine' wpAnyH_take (i := 17) (oi := { dst := some 6, op := Op.assign (Operand.tmp 261), type := 4, pos := "keeps.go:148", after := #[{ on := 16, ground := Ground.data }, { on := 13, ground := Ground.chain }, { on := 0, ground := Ground.phase }, { on := 1, ground := Ground.phase }, { on := 2, ground := Ground.phase }, { on := 3, ground := Ground.phase }, { on := 4, ground := Ground.phase }, { on := 5, ground := Ground.phase }, { on := 6, ground := Ground.phase }, { on := 7, ground := Ground.phase }, { on := 8, ground := Ground.phase }, { on := 9, ground := Ground.phase }, { on := 10, ground := Ground.phase }, { on := 11, ground := Ground.phase }, { on := 12, ground := Ground.phase }, { on := 13, ground := Ground.phase }, { on := 14, ground := Ground.phase }, { on := 15, ground := Ground.phase }, { on := 16, ground := Ground.phase }], guard := none }) (v := _) rfl (by kernel_rfl) (by kernel_rfl) (by kernel_rfl) (fun _ _ _ h => h) (Or.inl ⟨by rfl, ?hyZ_17⟩) (by assumption) ?reZ_17
        case hyZ_17 => (intro W hSw; (try dsimp only at hSw); go_simp; try with_reducible rfl)
        try simp only [Act.put, List.setIfInBounds_toArray, List.set_cons_zero, List.set_cons_succ]
        refine wpAnyH_done (by kernel_rfl) ?_ _
        refine NoPanic.normal ?_
        go_wp2_with fail
        go_ret
        exact ⟨rfl, HE.out _ BWx2.out⟩
      · have hb1 : Below r5.heap.size r5 w1' := hB9.grown n7 hB9.size (fun k e => by cases e; omega)
        have hlk := (M2.out.kept (grown_later hb1) (by simp)).look s n1' i2 n2'
        have HR9 : Hid ((∃ cnt, Rn w1' k1 kr n1 f1 cnt) ∧ Below kr r5 w1') := ⟨⟨cnt1, n5⟩, by rw [hkk]; exact hb1⟩
        have HLT : Hid (w1'.rangeLeft k1 kr < w9.rangeLeft k1 kr) := by
          have := n5.left_eq
          rw [this, hRn.left_eq]
          exact n6
        clear hRn hB9 HB9 hrel n1' n2' n5 n6 n7 n8 hb1 SL B5 HBW HZ1 HZ2 HKR hkk M2
        go_wp2_with fail
        go_roundw
        case rel => exact HR9
        case measure => exact HLT.out
end Go.Proofs.YtafmiolehlagkaaGreat

/-
  WorldOrder, for every input: what came in, opened; the row.
-/
namespace Go.Proofs.YtafmiolehlagkaaGreat
open Go.ChangeShapes Go.WideShapes Go.ChangeAt Go.RowKit
set_option maxRecDepth 100000
theorem ints_of {W : World} {ao : Option Addr} : ∀ (n : Nat), (∀ i, i < n → ∃ g o, ao = some ⟨g, o, none⟩ ∧ ∃ d : Int, Bd d ∧ W.cell? ⟨g, o + i, none⟩ = some (.int .i64 d)) →
    ∃ l : List Int, l.length = n ∧ (∀ d ∈ l, Bd d) ∧ ∀ i (hi : i < l.length), ∃ g o, ao = some ⟨g, o, none⟩ ∧ W.cell? ⟨g, o + i, none⟩ = some (.int .i64 l[i])
  | 0, _ => ⟨[], rfl, fun d hd => (by cases hd), fun i hi => absurd hi (by simp)⟩
  | n + 1, h => by
    obtain ⟨ds, e1, e2, e3⟩ := ints_of n (fun i hi => h i (by omega))
    obtain ⟨g, o, ea, d, hd, hc⟩ := h n (by omega)
    refine ⟨ds ++ [d], by simp [e1], fun x hx => ?_, fun i hi => ?_⟩
    · rcases List.mem_append.1 hx with hx | hx
      · exact e2 x hx
      · rw [List.mem_singleton.1 hx]; exact hd
    · by_cases c : i < ds.length
      · rw [List.getElem_append_left c]
        exact e3 i c
      · have hin : i = ds.length := by simp at hi; omega
        subst hin
        rw [List.getElem_append_right (Nat.le_refl _)]
        simp only [Nat.sub_self, List.getElem_cons_zero, e1]
        exact ⟨g, o, ea, hc⟩
theorem ints_arg {H : Type} {enc : TypeId × Value → H} {W : World} {a0 : Option Addr} {len0 cap0 : Nat} {d0 : DataW H} {p0 : List MemPlace} (h0 : DataW.Trod enc Tryz.prog W 0 (fun _ => true) true 45 (.slice a0 len0 cap0) d0 p0) : ∃ l : List Int, Iz W (.slice a0 len0 cap0) l ∧ ∀ d ∈ l, Bd d := by
  obtain ⟨fuel, hf⟩ := h0
  rcases DataW.trod_slice Tryz.underlying45 hf with ⟨hcs, _⟩ | ⟨a, len, cap, elems, rest, n, _, hcs, hx, _, hl, hm, hlen, hel, _, _⟩
  · simp [Value.cells] at hcs
    obtain ⟨rfl, rfl, rfl⟩ := hcs
    exact ⟨[], ⟨none, 0, rfl, Nat.le_refl _, Nat.zero_le _, fun i hi => absurd hi (by simp)⟩, fun d hd => by cases hd⟩
  · simp [Value.cells] at hcs
    obtain ⟨rfl, rfl, rfl⟩ := hcs
    have hc1 : Tryz.prog.cellsOf 3 = 1 := by kernel_rfl
    have one : ∀ i, i < len0 → ∃ d : Int, Bd d ∧ W.cell? (a.add (i * 1)) = some (.int .i64 d) := fun i hi => by
      have h1 := hel i hi
      rw [List.getElem?_eq_getElem (by omega), hc1, Option.bind_eq_some_iff] at h1
      obtain ⟨cs', hcs', ht'⟩ := h1
      obtain ⟨d, hd, _, hw⟩ := DataW.trod_int Tryz.underlying3 ht'
      obtain ⟨_, _, hcell⟩ := World.cells?_some hcs'
      have q0 := hcell 0 (by omega)
      rw [hd] at q0
      refine ⟨d, ?_, ?_⟩
      · simp [Lit.wf, IntKind.min, IntKind.max, IntKind.signed, IntKind.bits] at hw
        exact hw
      · simpa [Addr.add] using q0
    have spot0 : 0 < len0 → ∃ b off, a = ⟨b, off, none⟩ := fun hp => by
      obtain ⟨d, -, q0⟩ := one 0 hp
      obtain ⟨b, off, spot⟩ := a
      have hspot : spot = none := by simpa [Addr.add] using World.cell?_spot q0
      subst hspot
      exact ⟨b, off, rfl⟩
    obtain ⟨l, e1, e2, e3⟩ := ints_of (W := W) (ao := some a) len0 (fun i hi => by
      obtain ⟨d, hd, q0⟩ := one i hi
      obtain ⟨blk, off, rfl⟩ := spot0 (by omega)
      rw [Go.WideShapes.add_plain, Nat.mul_one] at q0
      exact ⟨blk, off, rfl, d, hd, q0⟩)
    subst e1
    exact ⟨l, ⟨some a, cap0, rfl, hl, hm, e3⟩, e2⟩
end Go.Proofs.YtafmiolehlagkaaGreat
namespace Go.Proofs.YtafmiolehlagkaaGreat.worldOrder
open Go.ChangeShapes Go.WideShapes Go.ChangeAt Go.RowKit
set_option maxRecDepth 100000 in
theorem lifted (os : Os) (started : os.Started) (H : Type) (enc : TypeId × Value → H) :
    ReturnsInHanded {} Tryz.checked os 7 .any (Rows.worldOrderSpec.pre6 enc Tryz.prog Tryz.f7 Rows.worldOrderRow.domain false) (Rows.worldOrderSpec.post enc Tryz.prog Tryz.f7 false true false false) := by
  refine returnsInHanded_of_change_sized (C := Tryz.checked) own started (by kernel_rfl) Tryz.func7
    (ChangeSpec.witness6 (enc := enc) (C := Tryz.checked) false ⟨#[], #[.slice none 0 0, .slice none 0 0, .slice none 0 0], []⟩ 7 (by kernel_rfl) (by kernel_rfl) (by kernel_rfl) (by kernel_rfl)) ?_
  intro W base args ds gs before hval0 hW hcnd hsz0 _
  have hval : ∀ (j : Nat) t v, Tryz.f7.params[j]? = some t → args[j]? = some v → Value.okWide Tryz.prog W .any base t v := hval0
  have hW' := hW
  obtain ⟨p, q, hA0, hV, rfl, hfz, hnd⟩ := hW
  have hA : DataW.TrodAll enc Tryz.prog W 0 (fun _ => true) true Tryz.f7.params.toList args.toList ds p := hA0
  rw [Tryz.params7] at hA hval
  obtain ⟨v0, vs0, d0, ds0, p0, q0, hargs, rfl, rfl, h0, r0⟩ := trodAll_cons hA
  obtain ⟨v1, vs1, d1, ds1, p1, q1, rfl, rfl, rfl, h1, r1⟩ := trodAll_cons r0
  obtain ⟨v2, vs2, d2, ds2, p2, q2, rfl, rfl, rfl, h2, r2⟩ := trodAll_cons r1
  obtain ⟨rfl, rfl, rfl⟩ := trodAll_nil r2
  obtain rfl : args = #[v0, v1, v2] := by cases args; simp_all
  obtain ⟨rfl, rfl⟩ := trodVars_none hV
  obtain ⟨a0, len0, cap0, rfl⟩ := okWide_slice Tryz.underlying45 (hval 0 45 v0 rfl rfl)
  obtain ⟨a1, len1, cap1, rfl⟩ := okWide_slice Tryz.underlying45 (hval 1 45 v1 rfl rfl)
  obtain ⟨a2, len2, cap2, rfl⟩ := okWide_slice Tryz.underlying58 (hval 2 58 v2 rfl rfl)
  have lt0 : ∀ x ∈ p0, x.block < W.heap.size := by obtain ⟨m, hm⟩ := h0; exact DataW.trod_lt m _ _ _ hm
  have lt1 : ∀ x ∈ p1, x.block < W.heap.size := by obtain ⟨m, hm⟩ := h1; exact DataW.trod_lt m _ _ _ hm
  have lt2 : ∀ x ∈ p2, x.block < W.heap.size := by obtain ⟨m, hm⟩ := h2; exact DataW.trod_lt m _ _ _ hm
  obtain ⟨l0, hi0, hb0⟩ := ints_arg h0
  obtain ⟨l1, hi1, hb1⟩ := ints_arg h1
  obtain ⟨dds, hde, hok⟩ := deeds_arg h2
  clear hA0 hval0
  refine (order_walk _ _ _ l0 l1 dds W hi0 hi1 hde hb0 hb1 hok).mono fun e W' ⟨he, bel⟩ => ?_
  subst he
  exact ⟨_, rfl, _, _, _, [], _, [], hW', trodAll_mk1 (shut_bool Tryz.underlying4 _), (trodAll_cons_mk (Below.trod laidOut (by kernel_rfl) (of_decide_eq_true (by kernel_rfl)) h0 bel lt0) (trodAll_cons_mk (Below.trod laidOut (by kernel_rfl) (of_decide_eq_true (by kernel_rfl)) h1 bel lt1) (trodAll_cons_mk (Below.trod laidOut (by kernel_rfl) (of_decide_eq_true (by kernel_rfl)) h2 bel lt2) trodAll_mk0))), rfl, bel.frame _, fun h => by cases h⟩
theorem over : Rows.worldOrderRow.holds Tryz.pinned (OpenSpec.ofChange Rows.worldOrderSpec) :=
  OpenClaim.holds_of_wide 7 Tryz.f7 rfl rfl rfl rfl rfl rfl rfl ⟨rfl, rfl, rfl, rfl, rfl⟩ rfl rfl rfl rfl rfl (by kernel_rfl) Tryz.func7 (by kernel_rfl)
    (of_decide_eq_true (by kernel_rfl)) (by unfold Func.isWrapper; first | (rw [if_pos (by decide +kernel)]; kernel_rfl) | (rw [if_neg (by decide +kernel)]; exact ⟨rfl, rfl⟩))
    (fun os started H enc _ => lifted os started H enc)
end Go.Proofs.YtafmiolehlagkaaGreat.worldOrder
namespace Go.Proofs.YtafmiolehlagkaaGreat
theorem worldOrder_holds : Rows.WorldOrderSaid := worldOrder.over
#print axioms worldOrder_holds
end Go.Proofs.YtafmiolehlagkaaGreat
