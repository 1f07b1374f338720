/-
  Buffer: Apply, of two commands: one that makes, one that takes away.
-/
import Derived.Test.YtiolaenkfhcajaaGreatBApp
import Derived.Test.YtiolaenkfhcajaaGreatBMath
namespace Go.Proofs.YtiolaenkfhcajaaGreat
open Go.RowKit
set_option maxRecDepth 100000
theorem two_keys {L : Int × Int → List Cm} (h1 : L (0, 9) ≠ []) (h2 : L (1, 5) ≠ []) (h3 : ∀ x, x ≠ (0, 9) → x ≠ (1, 5) → L x = []) {ss : List (Int × Int)} (hm : ∀ x, x ∈ ss ↔ L x ≠ []) (hs : ss.Pairwise ltT) : ss = [(0, 9), (1, 5)] := by
  refine sorted_one hs (by simp [ltT]) (fun x => (hm x).trans ⟨fun h => ?_, fun h => ?_⟩)
  · by_cases e1 : x = (0, 9)
    · rw [e1]; simp
    · by_cases e2 : x = (1, 5)
      · rw [e2]; simp
      · exact absurd (h3 x e1 e2) h
  · simp only [List.mem_cons, List.not_mem_nil, or_false] at h
    rcases h with rfl | rfl
    · exact h1
    · exact h2
set_option maxHeartbeats 8000000 in
theorem apply_two {w : World} {S U : Nat → Prop} {gb gm n sz gw : Nat} {f : Int × Int → Option Value} {L : Int × Int → List Cm} (h : Bg w S U gb gm n f L sz) (hsz : sz ≤ 100000) {i1 g1 k1 k2 : Int} {a1 a2 : Option Addr} {n1 p1 n2 p2 : Nat}
    (h1 : L (0, 9) = [⟨1, i1, g1, k1, .slice none 0 0, .slice a1 n1 p1⟩]) (h2 : L (1, 5) = [⟨2, 0, 1, k2, .slice none 0 0, .slice a2 n2 p2⟩]) (h3 : ∀ x, x ≠ (0, 9) → x ≠ (1, 5) → L x = [])
    {R1 : World → World → Prop} {R2 : World → World → World → Prop} (K1 : ∀ V w', Below w.heap.size w V → R1 V w' → V.heap.size ≤ w'.heap.size ∧ ∀ k, w.heap.size ≤ k → k < V.heap.size → w'.heap[k]? = V.heap[k]?)
    (J1 : Hid (∀ V, Below w.heap.size w V → Calls Tryz.prog 20 #[.pointer (some ⟨gw, 0, none⟩), .agg #[.int .i64 1, .int .i64 i1, .int .i64 g1, .int .i64 k1, .slice none 0 0, .slice a1 n1 p1]] V fun e w' => e = .returned (.tuple #[.agg #[.int .i64 0, .int .i64 1], .int .i64 0]) ∧ R1 V w'))
    (K2 : ∀ w1 V w', R2 w1 V w' → V.heap.size ≤ w'.heap.size ∧ ∀ k, w1.heap.size ≤ k → k < V.heap.size → w'.heap[k]? = V.heap[k]?)
    (J2 : Hid (∀ V1 w1 V, Below w.heap.size w V1 → R1 V1 w1 → Below w1.heap.size w1 V → Calls Tryz.prog 20 #[.pointer (some ⟨gw, 0, none⟩), .agg #[.int .i64 2, .int .i64 0, .int .i64 1, .int .i64 k2, .slice none 0 0, .slice a2 n2 p2]] V fun e w' => e = .returned (.tuple #[.agg #[.int .i64 0, .int .i64 0], .int .i64 0]) ∧ R2 w1 V w')) :
    Calls Tryz.prog 10 #[.pointer (some ⟨gb, 0, none⟩), .pointer (some ⟨gw, 0, none⟩)] w fun e w' => ∃ g c, e = .returned (.tuple #[.slice (some ⟨g, 0, none⟩) 1 c, .int .i64 0]) ∧ (w'.cell? ⟨g, 0, none⟩ = some (.int .i64 0) ∧ w'.cell? ⟨g, 1, none⟩ = some (.int .i64 1)) ∧ ∃ V1 w2 V2 w4, Below w.heap.size w V1 ∧ R1 V1 w2 ∧ Below w2.heap.size w2 V2 ∧ R2 w2 V2 w4 ∧ Below w4.heap.size w4 w' := by
  have g0 : w.cell? ⟨gb, 0, none⟩ = some (.map (some gm)) := by rw [cell_of_row w _ _ _ 54 (0, 0) h.row]; rfl
  have JT : Hid (Calls Tryz.prog 18 #[.map (some gm), .func (.func 19) #[] #[]] w fun e w' => ∃ g c, e = .returned (.slice (some ⟨g, 0, none⟩) 2 c) ∧ 2 ≤ c ∧ w'.ownsRow w.heap.size 40 6 (.slice (some ⟨g, 0, none⟩) 2 c) 2 (czL [⟨1, i1, g1, k1, .slice none 0 0, .slice a1 n1 p1⟩, ⟨2, 0, 1, k2, .slice none 0 0, .slice a2 n2 p2⟩]) ∧ Below w.heap.size w w') := by
    refine (together_any h hsz).mono ?_
    rintro e w' ⟨v, ss, e1, q1, q2, q3, q4⟩
    obtain rfl := two_keys (by rw [h1]; simp) (by rw [h2]; simp) h3 q1 q2
    have ea : allL L [(0, 9), (1, 5)] = [⟨1, i1, g1, k1, .slice none 0 0, .slice a1 n1 p1⟩, ⟨2, 0, 1, k2, .slice none 0 0, .slice a2 n2 p2⟩] := by
      unfold allL
      simp [h1, h2]
    rw [ea] at q3
    rcases q3.2 with ⟨-, e0⟩ | ⟨g, c, cur, rfl, -, -, hc, -⟩
    · simp at e0
    · exact ⟨g, c, e1, hc, q3, q4⟩
  obtain ⟨ie, hie, hez0, hez1, hez2⟩ := info_parts info32
  clear h h1 h2 h3 hsz
  go_enter Tryz.func10, Tryz.ntmps10
  go_wp2_with fail
  refine JT.out.mono ?_
  rintro e w1 ⟨g, c, rfl, hc, ho, b1⟩
  have HO := hide ho
  have B1 := hide b1
  clear ho b1 JT g0
  have tm : min (2 : Int) 2000 = 2 := by decide
  have tn : (2 : Int).toNat = 2 := rfl
  have tx : max (2 : Int) 0 = 2 := by decide
  go_wp2_with fail
  obtain ⟨cs, hcs⟩ := own_ty HO.out (g := g) rfl
  have HCS := hide hcs
  have gsz : g < w1.heap.size := lt_of_block hcs
  have gba : w.heap.size ≤ g := (HO.out.lt g rfl).1
  have HGS : Hid (w.heap.size ≤ g ∧ g < w1.heap.size) := ⟨gba, gsz⟩
  have gcell : Hid (∀ V : World, V.heap[g]? = w1.heap[g]? → ∀ j, V.cell? ⟨g, j, none⟩ = w1.cell? ⟨g, j, none⟩) := fun V hV j => by
    rw [cell_of_row V _ _ _ 40 (0, 0) (hV.trans HCS.out), cell_of_row w1 _ _ _ 40 (0, 0) HCS.out]
  clear hcs gsz gba
  have y0 : w1.cell? ⟨g, 0, none⟩ = some (.int .i64 1) := (HO.out.cellAt 0 (by decide)).trans rfl
  have y1 : w1.cell? ⟨g, 1, none⟩ = some (.int .i64 i1) := (HO.out.cellAt 1 (by decide)).trans rfl
  have y2 : w1.cell? ⟨g, 2, none⟩ = some (.int .i64 g1) := (HO.out.cellAt 2 (by decide)).trans rfl
  have y3 : w1.cell? ⟨g, 3, none⟩ = some (.int .i64 k1) := (HO.out.cellAt 3 (by decide)).trans rfl
  have y4 : w1.cell? ⟨g, 4, none⟩ = some (.slice none 0 0) := (HO.out.cellAt 4 (by decide)).trans rfl
  have y5 : w1.cell? ⟨g, 5, none⟩ = some (.slice a1 n1 p1) := (HO.out.cellAt 5 (by decide)).trans rfl
  obtain ⟨V1, hV1⟩ : ∃ X, X = w1.alloc (.cells #[.int .i64 1, .int .i64 i1, .int .i64 g1, .int .i64 k1, .slice none 0 0, .slice a1 n1 p1] 40) := ⟨_, rfl⟩
  obtain ⟨kc, hkc⟩ : ∃ k, k = w1.heap.size := ⟨_, rfl⟩
  have bV1 : Below w1.heap.size w1 V1 := by rw [hV1]; exact below_alloc w1 _
  have rc : V1.heap[kc]? = some (.cells #[.int .i64 1, .int .i64 i1, .int .i64 g1, .int .i64 k1, .slice none 0 0, .slice a1 n1 p1] 40 (0, 0)) := by rw [hV1, hkc]; exact heap_alloc_new w1 _
  have sc : kc < V1.heap.size := lt_of_block rc
  have HBV : Hid (Below w.heap.size w V1) := below_on B1.out bV1
  have HKC : Hid (w.heap.size ≤ kc ∧ kc < V1.heap.size) := ⟨by have := B1.out.size; omega, sc⟩
  have BV1 := hide bV1
  have RC := hide rc
  have x0 : V1.cell? ⟨kc, 0, none⟩ = some (.int .i64 1) := by rw [cell_of_row V1 _ _ _ 40 (0, 0) rc]; rfl
  have x1 : V1.cell? ⟨kc, 1, none⟩ = some (.int .i64 i1) := by rw [cell_of_row V1 _ _ _ 40 (0, 0) rc]; rfl
  have x2 : V1.cell? ⟨kc, 2, none⟩ = some (.int .i64 g1) := by rw [cell_of_row V1 _ _ _ 40 (0, 0) rc]; rfl
  have x3 : V1.cell? ⟨kc, 3, none⟩ = some (.int .i64 k1) := by rw [cell_of_row V1 _ _ _ 40 (0, 0) rc]; rfl
  have x4 : V1.cell? ⟨kc, 4, none⟩ = some (.slice none 0 0) := by rw [cell_of_row V1 _ _ _ 40 (0, 0) rc]; rfl
  have x5 : V1.cell? ⟨kc, 5, none⟩ = some (.slice a1 n1 p1) := by rw [cell_of_row V1 _ _ _ 40 (0, 0) rc]; rfl
  have CC1 := hide (J1.out V1 HBV.out)
  refine wp_loop_rounds 3 ?_
  rw [rounds_succ]
  go_upto_region 7 with fail
  rw [← hV1, ← hkc]
  clear hV1 hkc bV1 rc sc y0 y1 y2 y3 y4 y5
  go_wp2_with fail
  refine CC1.out.mono ?_
  rintro e w2 ⟨rfl, hR1⟩
  have HR1 := hide hR1
  have HQ := hide (K1 V1 w2 HBV.out hR1)
  clear hR1 CC1 x0 x1 x2 x3 x4 x5
  have z0 : w2.cell? ⟨kc, 0, none⟩ = some (.int .i64 1) := by
    rw [cell_of_row w2 _ _ _ 40 (0, 0) ((HQ.out.2 kc HKC.out.1 HKC.out.2).trans RC.out)]; rfl
  obtain ⟨W1, hW1⟩ : ∃ X, X = w2.alloc (.cells #[.int .i64 0, .int .i64 1] 36) := ⟨_, rfl⟩
  obtain ⟨ke, hke⟩ : ∃ k, k = w2.heap.size := ⟨_, rfl⟩
  have bW1 : Below w2.heap.size w2 W1 := by rw [hW1]; exact below_alloc w2 _
  have re : W1.heap[ke]? = some (.cells #[.int .i64 0, .int .i64 1] 36 (0, 0)) := by rw [hW1, hke]; exact heap_alloc_new w2 _
  have HKE : Hid (ke < W1.heap.size ∧ ke = w2.heap.size) := ⟨lt_of_block re, hke⟩
  have v0 : W1.cell? ⟨ke, 0, none⟩ = some (.int .i64 0) := by rw [cell_of_row W1 _ _ _ 36 (0, 0) re]; rfl
  have v1 : W1.cell? ⟨ke, 1, none⟩ = some (.int .i64 1) := by rw [cell_of_row W1 _ _ _ 36 (0, 0) re]; rfl
  have u0 : W1.cell? ⟨kc, 0, none⟩ = some (.int .i64 1) := by
    have hk : kc < w2.heap.size := by have := HKC.out.2; have := HQ.out.1; omega
    rw [cell_of_row W1 _ _ _ 40 (0, 0) ((bW1.block kc hk).trans ((HQ.out.2 kc HKC.out.1 HKC.out.2).trans RC.out))]; rfl
  have BW1 := hide bW1
  go_upto_region 8 with fail
  rw [← hW1, ← hke]
  clear hW1 hke bW1 re z0
  have HSZ1 : Hid (W1.heap.size = W1.heap.size) := rfl
  go_wp2_with (at_builtin; refine wpList_append_own_at _ rfl _ _ 41 rfl w2.heap.size 36 ie (.agg #[.int .i64 0, .int .i64 0]) 2 16 Tryz.underlying41 hie hez0 hez1 hez2 rfl (by decide) _ 0 [] rfl ⟨rfl, .inl ⟨rfl, rfl⟩⟩ ⟨W1.heap.size, 0, none⟩ 1 1 [.int .i64 0, .int .i64 1] rfl rfl ?news (by intro u hu; simp only [List.mem_cons, List.not_mem_nil, or_false] at hu; rcases hu with rfl | rfl <;> rfl) (by unfold maxLen; omega) (by omega) ?bas ?_)
  case bas => have := BW1.out.size; simp; omega
  intro v' w3 ho' hg' _ _
  obtain ⟨a', c', rfl⟩ := own_len ho'
  rcases ho'.2 with ⟨-, e0⟩ | ⟨g', cap', cur', eg, hb', hrow', -⟩
  · exact absurd e0 (by decide)
  injection eg with eg0 eg1 eg2
  subst eg0
  have hb3 : Below w2.heap.size w2 w3 := (below_on BW1.out (below_alloc W1 _)).grown hg' (by have := BW1.out.size; simp; omega) (fun k e => by cases e)
  have BW3 := hide hb3
  have HO3 := hide ho'
  have hg2 : g < w2.heap.size := by have := HQ.out.1; have := BV1.out.size; have := HGS.out; omega
  have e2 : w2.heap[g]? = w1.heap[g]? := (HQ.out.2 g HGS.out.1 (by have := BV1.out.size; have := HGS.out; omega)).trans (BV1.out.block g HGS.out.2)
  have e3 : w3.heap[g]? = w1.heap[g]? := (hb3.block g hg2).trans e2
  have HROW := hide hrow'
  have HB' := hide hb'
  clear ho' hg' hrow' hb3 u0 v0 v1 hb'
  have y0 : w3.cell? ⟨g, 6, none⟩ = some (.int .i64 2) := (gcell.out w3 e3 6).trans ((HO.out.cellAt 6 (by decide)).trans rfl)
  have y1 : w3.cell? ⟨g, 7, none⟩ = some (.int .i64 0) := (gcell.out w3 e3 7).trans ((HO.out.cellAt 7 (by decide)).trans rfl)
  have y2 : w3.cell? ⟨g, 8, none⟩ = some (.int .i64 1) := (gcell.out w3 e3 8).trans ((HO.out.cellAt 8 (by decide)).trans rfl)
  have y3 : w3.cell? ⟨g, 9, none⟩ = some (.int .i64 k2) := (gcell.out w3 e3 9).trans ((HO.out.cellAt 9 (by decide)).trans rfl)
  have y4 : w3.cell? ⟨g, 10, none⟩ = some (.slice none 0 0) := (gcell.out w3 e3 10).trans ((HO.out.cellAt 10 (by decide)).trans rfl)
  have y5 : w3.cell? ⟨g, 11, none⟩ = some (.slice a2 n2 p2) := (gcell.out w3 e3 11).trans ((HO.out.cellAt 11 (by decide)).trans rfl)
  obtain ⟨V2, hV2⟩ : ∃ X, X = w3.alloc (.cells #[.int .i64 2, .int .i64 0, .int .i64 1, .int .i64 k2, .slice none 0 0, .slice a2 n2 p2] 40) := ⟨_, rfl⟩
  obtain ⟨kd, hkd⟩ : ∃ k, k = w3.heap.size := ⟨_, rfl⟩
  have bV2 : Below w3.heap.size w3 V2 := by rw [hV2]; exact below_alloc w3 _
  have rd : V2.heap[kd]? = some (.cells #[.int .i64 2, .int .i64 0, .int .i64 1, .int .i64 k2, .slice none 0 0, .slice a2 n2 p2] 40 (0, 0)) := by rw [hV2, hkd]; exact heap_alloc_new w3 _
  have HBV2 : Hid (Below w2.heap.size w2 V2) := below_on BW3.out bV2
  have HKD : Hid (w2.heap.size ≤ kd ∧ kd < V2.heap.size) := ⟨by have := BW3.out.size; omega, lt_of_block rd⟩
  have HWV : Hid (w.heap.size ≤ w2.heap.size ∧ w.heap.size ≤ V2.heap.size) := by
    have h1 := HBV.out.size
    have h2 := HQ.out.1
    have h3 := HBV2.out.size
    exact ⟨by omega, by omega⟩
  have BV2 := hide bV2
  have RD := hide rd
  have x0 : V2.cell? ⟨kd, 0, none⟩ = some (.int .i64 2) := by rw [cell_of_row V2 _ _ _ 40 (0, 0) rd]; rfl
  have x1 : V2.cell? ⟨kd, 1, none⟩ = some (.int .i64 0) := by rw [cell_of_row V2 _ _ _ 40 (0, 0) rd]; rfl
  have x2 : V2.cell? ⟨kd, 2, none⟩ = some (.int .i64 1) := by rw [cell_of_row V2 _ _ _ 40 (0, 0) rd]; rfl
  have x3 : V2.cell? ⟨kd, 3, none⟩ = some (.int .i64 k2) := by rw [cell_of_row V2 _ _ _ 40 (0, 0) rd]; rfl
  have x4 : V2.cell? ⟨kd, 4, none⟩ = some (.slice none 0 0) := by rw [cell_of_row V2 _ _ _ 40 (0, 0) rd]; rfl
  have x5 : V2.cell? ⟨kd, 5, none⟩ = some (.slice a2 n2 p2) := by rw [cell_of_row V2 _ _ _ 40 (0, 0) rd]; rfl
  have CC2 := hide (J2.out V1 w2 V2 HBV.out HR1.out HBV2.out)
  clear e2 e3 hg2
  go_wp2_with fail
  rw [rounds_succ]
  go_upto_region 7 with fail
  rw [← hV2, ← hkd]
  clear hV2 hkd bV2 rd y0 y1 y2 y3 y4 y5
  go_wp2_with fail
  refine CC2.out.mono ?_
  rintro e w4 ⟨rfl, hR2⟩
  have HR2 := hide hR2
  have HQ2 := hide (K2 w2 V2 w4 hR2)
  clear hR2 CC2 x0 x1 x2 x3 x4 x5
  obtain ⟨W2, hW2⟩ : ∃ X, X = w4.alloc (.cells #[.int .i64 0, .int .i64 0] 36) := ⟨_, rfl⟩
  obtain ⟨kf, hkf⟩ : ∃ k, k = w4.heap.size := ⟨_, rfl⟩
  have bW2 : Below w4.heap.size w4 W2 := by rw [hW2]; exact below_alloc w4 _
  have BW2 := hide bW2
  have u0 : W2.cell? ⟨kd, 0, none⟩ = some (.int .i64 2) := by
    have h1 := HKD.out
    have h2 := HWV.out
    have hk : kd < w4.heap.size := by have := HQ2.out.1; omega
    rw [cell_of_row W2 _ _ _ 40 (0, 0) ((bW2.block kd hk).trans ((HQ2.out.2 kd h1.1 h1.2).trans RD.out))]; rfl
  go_upto_region 8 with fail
  rw [← hW2, ← hkf]
  clear hW2 hkf bW2
  go_wp2_with fail
  rw [rounds_succ]
  go_wp2_with fail
  have eW : W2.heap[g']? = w3.heap[g']? := by
    have h1 := lt_of_block HROW.out
    have h2 := HWV.out
    have h3 := HB'.out
    have h4 := BV2.out.size
    have h5 := HQ2.out.1
    exact (BW2.out.block g' (by omega)).trans ((HQ2.out.2 g' (by omega) (by omega)).trans (BV2.out.block g' h1))
  have ec : ∀ j, W2.cell? ⟨g', j, none⟩ = w3.cell? ⟨g', j, none⟩ := fun j => by
    rw [cell_of_row W2 _ _ _ 36 (0, 0) (eW.trans HROW.out), cell_of_row w3 _ _ _ 36 (0, 0) HROW.out]
  go_ret2
  exact ⟨g', cap', rfl, ⟨(ec 0).trans ((HO3.out.cellAt 0 (by decide)).trans rfl), (ec 1).trans ((HO3.out.cellAt 1 (by decide)).trans rfl)⟩, V1, w2, V2, w4, HBV.out, HR1.out, HBV2.out, HR2.out, BW2.out⟩
end Go.Proofs.YtiolaenkfhcajaaGreat
