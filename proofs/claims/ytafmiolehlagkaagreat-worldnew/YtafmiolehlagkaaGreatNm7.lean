import Derived.Test.YtafmiolehlagkaaGreatNm6
import Derived.WalkSpells
import Derived.Test.YtafmiolehlagkaaGreatRows
import Derived.Test.YtafmiolehlagkaaGreatNMay
import Derived.ProofKit
import Derived.OpenShut
import Derived.ShutString
import Derived.ChangeOld
import Derived.SizedLaws
import Derived.JoinedCond
import Derived.Deep.CondSized
import Derived.Test.YtafmiolehlagkaaGreatNm4
/-
  World: all, of a pair of worlds of nobody.
-/
namespace Go.Proofs.YtafmiolehlagkaaGreat
open Go.RowKit
set_option maxRecDepth 100000
theorem Kq.mv {B : Nat} {W W' : World} {g c i : Nat} {ks : List Kind} {L : List Kc} {S : Nat → Prop} (h : Kq B W g c ks L i) (hm : Mv W W' S) (h0 : ¬ S g) (h1 : ∀ j (_h : j < L.length) q, (kcV L[j]).ownBlock = some q → ¬ S q) : Kq B W' g c ks L i := by
  obtain ⟨M, m1, m2, m3⟩ := h
  refine ⟨M, m1, hm.own m2 (fun q e => by
    simp only [Value.ownBlock, Option.some.injEq] at e
    rw [← e]
    exact h0), fun j j1 j2 j3 hj => ⟨(m3 j j1 j2 j3 hj).1, hm.own (m3 j j1 j2 j3 hj).2 (fun q e => h1 j j3 q e)⟩⟩
theorem Bl.off {B : Nat} {w w' : World} {gp gw gb k n : Nat} {v : Value} {xs zs : List Value} {S : Nat → Prop} (h : Bl B w gp gw gb v k n xs zs) (hm : Mv w w' S) (h0 : ¬ S gp) (h1 : ∀ q, B ≤ q → ¬ S q) : Bl B w' gp gw gb v k n xs zs := h.mv hm h0 (fun q hq e => absurd e (h1 q hq))
theorem sr_five {w : World} : Sr (w.alloc (.cells #[.string ovl, .string ovl, .string ovl, .string ovl, .string ovl] 9)) (.slice (some ⟨w.heap.size, 0, none⟩) 5 5) [ovl, ovl, ovl, ovl, ovl] :=
  sr_of (l := [ovl, ovl, ovl, ovl, ovl]) (heap_alloc_new w _) (by decide) (fun j hj => by match j, hj with | 0, _ => rfl | 1, _ => rfl | 2, _ => rfl | 3, _ => rfl | 4, _ => rfl)
set_option maxHeartbeats 40000000 in
theorem all_any {w : World} {gp gw gb B0 : Nat} {v : Value} {ks : List Kind} (h : Q0 w gp gw gb v ks) (hv : ∀ W, Below B0 w W → Kr W v ks) (hB0 : B0 ≤ gp) :
    Calls Tryz.prog 14 #[.pointer (some ⟨gp, 0, none⟩)] w fun e w' => e = .returned (.bool true) ∧ Below B0 w w' := by
  obtain ⟨i0, hi0, hz0, hz1, hz2⟩ := info_parts infoK
  obtain ⟨i5, hi5, hx0, hx1, hx2⟩ := info_parts infoB5
  have hmay := h.may
  have hk12 : ks.length ≤ 12 := hmay.2.1
  have hk1 : 1 ≤ ks.length := hmay.1
  have HF4 : Hid (∀ k ∈ ks, k.2.length ≤ 4) := fun k hk => (hmay.2.2.1 k hk).1
  have HV := hide hv
  have Q := hide h
  have hgp : gp < w.heap.size := lt_of_block h.1
  obtain ⟨av, cv, ev, -⟩ := hv w (Below.refl _ _)
  subst ev
  have J1 := hide (ask_rows h)
  obtain ⟨c0, c1, c2⟩ := h.cell
  clear h hv hmay
  go_enter Tryz.func14, Tryz.ntmps14
  go_wp2_with fail
  refine J1.out.mono ?_
  rintro e w1 ⟨a1, d1, rfl, o1, b1⟩
  have Q1 := hide (Q.out.later b1)
  have R1 := hide o1
  have B1 := hide b1
  clear c0 c1 c2
  obtain ⟨c0, c1, c2⟩ := Q1.out.cell
  have J2 := hide (ask_rows Q1.out)
  clear J1 o1 b1 Q
  go_wp2_with fail
  refine J2.out.mono ?_
  rintro e w2 ⟨a2, d2, rfl, o2, b2⟩
  have Q2 := hide (Q1.out.later b2)
  have S2 := hide o2
  have B2 := hide b2
  clear c0 c1 c2
  obtain ⟨c0, c1, c2⟩ := Q2.out.cell
  have J3 := hide (drows0 Q2.out.2.2)
  clear J2 o2 b2 Q1
  go_wp2_with fail
  refine J3.out.mono ?_
  rintro e w2' ⟨rfl, rfl⟩
  obtain ⟨w2, rfl⟩ : ∃ X, X = w2' := ⟨_, rfl⟩
  have J4 := hide (ask_shapes Q2.out)
  clear J3
  go_wp2_with fail
  refine J4.out.mono ?_
  rintro e w3 ⟨rfl, ⟨n3, hn3, m3⟩, b3⟩
  have Q3 := hide (Q2.out.later b3)
  have X3 := hide m3
  have B3 := hide b3
  clear c0 c1 c2
  obtain ⟨c0, c1, c2⟩ := Q3.out.cell
  have J5 := hide (ask_shapes Q3.out)
  clear J4 m3 b3 Q2
  go_wp2_with fail
  refine J5.out.mono ?_
  rintro e w4 ⟨rfl, ⟨n4, hn4, m4⟩, b4⟩
  have Q4 := hide (Q3.out.later b4)
  have Y4 := hide m4
  have B4 := hide b4
  clear c0 c1 c2
  obtain ⟨c0, c1, c2⟩ := Q4.out.cell
  have J6 := hide (dshapes0 Q4.out.2.2)
  clear J5 m4 b4 Q3
  go_wp2_with fail
  refine J6.out.mono ?_
  rintro e w4' ⟨rfl, rfl⟩
  obtain ⟨w4, rfl⟩ : ∃ X, X = w4' := ⟨_, rfl⟩
  have J7 := hide (ask_kinds Q4.out)
  clear J6
  go_wp2_with fail
  refine J7.out.mono ?_
  rintro e w5 ⟨vk5, rfl, k5, b5⟩
  have Q5 := hide (Q4.out.later b5)
  have K5 := hide k5
  have B5 := hide b5
  clear c0 c1 c2
  obtain ⟨c0, c1, c2⟩ := Q5.out.cell
  have J8 := hide (ask_kinds Q5.out)
  obtain ⟨gk, ck, Lk5, rfl, -⟩ := k5.kq (by omega)
  clear J7 k5 b5 Q4
  go_wp2_with fail
  refine J8.out.mono ?_
  rintro e w6 ⟨vk6, rfl, k6, b6⟩
  have Q6 := hide (Q5.out.later b6)
  have K6 := hide k6.ko
  have B6 := hide b6
  clear c0 c1 c2
  obtain ⟨c0, c1, c2⟩ := Q6.out.cell
  have J9 := hide (ask_snap Q6.out)
  obtain ⟨gl, cl6, Lk6, rfl, -⟩ := k6.kq (by omega)
  clear J8 k6 b6 Q5
  go_wp2_with fail
  refine J9.out.mono ?_
  rintro e w7 ⟨v7, rfl, o7, b7⟩
  have Q7 := hide (Q6.out.later b7)
  have M7 := hide o7
  have B7 := hide b7
  clear c0 c1 c2
  obtain ⟨c0, c1, c2⟩ := Q7.out.cell
  have J10 := hide (ask_snap Q7.out)
  obtain ⟨gm7, cm7, rfl, hcm1, hcm2⟩ := own_form o7 (by omega)
  clear J9 o7 b7 Q6
  go_wp2_with fail
  refine J10.out.mono ?_
  rintro e w8 ⟨v8, rfl, o8, b8⟩
  have Q8 := hide (Q7.out.later b8)
  have N8 := hide o8
  have B8 := hide b8
  clear c0 c1 c2
  obtain ⟨c0, c1, c2⟩ := Q8.out.cell
  have J11 := hide (dsnap0 Q8.out.2.2)
  obtain ⟨gn8, cn8, rfl, hcn1, hcn2⟩ := own_form o8 (by omega)
  clear J10 o8 b8 Q7
  go_wp2_with fail
  refine J11.out.mono ?_
  rintro e w9 ⟨v9, rfl, o9, b9⟩
  have Q9 := hide (Q8.out.later b9)
  have B9 := hide b9
  have cv9 := conv00 o9
  clear c0 c1 c2
  obtain ⟨c0, c1, c2⟩ := Q9.out.cell
  obtain ⟨go9, co9, rfl, -, -⟩ := own_form o9 (by omega)
  have cm9 := conv00 (own_later M7.out (below_on B8.out B9.out))
  have J12 := hide (rows_same0 w9 a1 none d1 0)
  have X9 := hide (X3.out.later (below_on (below_on (below_on (below_on (below_on B4.out B5.out) B6.out) B7.out) B8.out) B9.out))
  have J13 := hide (shapes_none X9.out)
  have KV9 := hide (HV.out w9 ((below_on (below_on (below_on (below_on (below_on (below_on (below_on (below_on B1.out B2.out) B3.out) B4.out) B5.out) B6.out) B7.out) B8.out) B9.out).mono (by omega)))
  have J14 := hide (same_kinds (K5.out.ko.later (below_on (below_on (below_on B6.out B7.out) B8.out) B9.out)).kr KV9.out)
  clear J11 o9 b9 Q8
  go_wp2_with fail
  refine J12.out.mono ?_
  rintro e w9' ⟨rfl, rfl⟩
  obtain ⟨w9, rfl⟩ : ∃ X, X = w9' := ⟨_, rfl⟩
  clear J12
  go_wp2_with fail
  refine J13.out.mono ?_
  rintro e w9' ⟨rfl, rfl⟩
  obtain ⟨w9, rfl⟩ : ∃ X, X = w9' := ⟨_, rfl⟩
  clear J13
  go_wp2_with fail
  refine J14.out.mono ?_
  rintro e w10 ⟨rfl, b10⟩
  have Q10 := hide (Q9.out.later b10)
  have B10 := hide b10
  have cm10 := conv00 (own_later M7.out (below_on (below_on B8.out B9.out) B10.out))
  clear c0 c1 c2
  obtain ⟨c0, c1, c2⟩ := Q10.out.cell
  clear J14 b10 cm9 cv9
  have hs1 := B1.out.size
  have hs2 := B2.out.size
  have hs3 := B3.out.size
  have hs4 := B4.out.size
  have hs5 := B5.out.size
  have hs6 := B6.out.size
  have hs7 := B7.out.size
  have hs8 := B8.out.size
  have hs9 := B9.out.size
  have hs10 := B10.out.size
  have hx3 := X3.out.lt
  have hy4 := Y4.out.lt
  obtain ⟨D, hD⟩ : ∃ D : Nat → Prop, D = fun q => q = gp ∨ w10.heap.size ≤ q ∨ (w.heap.size ≤ q ∧ q < w1.heap.size) ∨ (w2.heap.size ≤ q ∧ q < w3.heap.size) ∨ (w4.heap.size ≤ q ∧ q < w5.heap.size) ∨ (w6.heap.size ≤ q ∧ q < w7.heap.size) := ⟨_, rfl⟩
  have hDi : ∀ q, D q ↔ (q = gp ∨ w10.heap.size ≤ q ∨ (w.heap.size ≤ q ∧ q < w1.heap.size) ∨ (w2.heap.size ≤ q ∧ q < w3.heap.size) ∨ (w4.heap.size ≤ q ∧ q < w5.heap.size) ∨ (w6.heap.size ≤ q ∧ q < w7.heap.size)) := fun q => by rw [hD]
  obtain ⟨D1, hD1⟩ : ∃ D1 : Nat → Prop, D1 = fun q => D q ∨ (w1.heap.size ≤ q ∧ q < w2.heap.size) := ⟨_, rfl⟩
  obtain ⟨D2, hD2⟩ : ∃ D2 : Nat → Prop, D2 = fun q => D1 q ∨ (w3.heap.size ≤ q ∧ q < w4.heap.size) := ⟨_, rfl⟩
  have hD1i : ∀ q, D1 q ↔ (D q ∨ (w1.heap.size ≤ q ∧ q < w2.heap.size)) := fun q => by rw [hD1]
  have hD2i : ∀ q, D2 q ↔ (D1 q ∨ (w3.heap.size ≤ q ∧ q < w4.heap.size)) := fun q => by rw [hD2]
  have b810 := below_on B9.out B10.out
  have b610 := below_on (below_on B7.out B8.out) b810
  have b410 := below_on (below_on B5.out B6.out) b610
  have b210 := below_on (below_on B3.out B4.out) b410
  have b010 := below_on (below_on B1.out B2.out) b210
  have KL : Hid (∀ W, Mv w10 W D2 → Kr W (.slice (some ⟨gl, 0, none⟩) ks.length cl6) ks) := fun W hW => (K6.out.mv ((Mv.of_below b610 D2).trans hW (fun _ _ e => e)) (fun q q1 q2 e => by rw [hD2i, hD1i, hDi] at e; omega)).kr
  have KV : Hid (∀ W, Mv w10 W D2 → Kr W (.slice av ks.length cv) ks) := fun W hW => HV.out W (((Mv.of_below b010 D2).trans hW (fun _ _ e => e)).below (by omega) (fun q e => by rw [hD2i, hD1i, hDi] at e; omega))
  have KN : Hid (∀ W, Mv w10 W D2 → (convert 51 9 (.slice (some ⟨gn8, 0, none⟩) 2 cn8)).run Tryz.prog W = .ok (.string ⟨#[0, 0]⟩) W) := fun W hW => conv00 (((Mv.of_below b810 D2).trans hW (fun _ _ e => e)).own N8.out (fun q q1 e => by have := N8.out.lt q q1; rw [hD2i, hD1i, hDi] at e; omega))
  have KY : Hid (∀ W, Mv w10 W D1 → Mi W w3.heap.size n4 (fun _ => none)) := fun W hW => Y4.out.same (((Mv.of_below b410 D1).trans hW (fun _ _ e => e)).2.2.2.2 _ hy4 (fun e => by rw [hD1i, hDi] at e; omega))
  have KS : Hid (∀ W, Mv w10 W D → W.ownsRow w1.heap.size 87 3 (.slice a2 0 d2) 0 []) := fun W hW => ((Mv.of_below b210 D).trans hW (fun _ _ e => e)).own S2.out (fun q q1 e => by have := S2.out.lt q q1; rw [hDi] at e; omega)
  have S2B : Hid (∀ q, (Value.slice a2 0 d2).ownBlock = some q → w1.heap.size ≤ q ∧ q < w2.heap.size) := fun q e => S2.out.lt q e
  have R1B : Hid (∀ q, (Value.slice a1 0 d1).ownBlock = some q → w.heap.size ≤ q ∧ q < w1.heap.size) := fun q e => R1.out.lt q e
  have R10 : Hid (w10.ownsRow w.heap.size 87 3 (.slice a1 0 d1) 0 []) := own_later R1.out (below_on B2.out b210)
  have X10 : Hid (Mo w10 w2.heap.size n3) := (X3.out.later (below_on B4.out b410)).mo
  have M10 : Hid (w10.ownsRow w6.heap.size 5 1 (.slice (some ⟨gm7, 0, none⟩) 2 cm7) 2 (Lib.byteCells [0, 0])) := own_later M7.out (below_on B8.out b810)
  have M7B : Hid (w6.heap.size ≤ gm7 ∧ gm7 < w7.heap.size) := M7.out.lt gm7 rfl
  obtain ⟨gk', ck', L, ek, hck1, hck2, hL, hApt, hKq, hgk, hLb⟩ := K5.out.kq (by omega)
  simp only [Value.slice.injEq, Option.some.injEq, Addr.mk.injEq, and_true, true_and] at ek
  obtain ⟨rfl, rfl⟩ := ek
  have KQ10 : Hid (Kq w4.heap.size w10 gk ck ks L 0) := by
    obtain ⟨M, m1, m2, m3⟩ := hKq
    exact ⟨M, m1, own_later m2 (below_on B6.out b610), fun j j1 j2 j3 hj => ⟨(m3 j j1 j2 j3 hj).1, own_later (m3 j j1 j2 j3 hj).2 (below_on B6.out b610)⟩⟩
  have HApt := hide hApt
  have HL := hide hL
  have HLB := hide hLb
  have HGK := hide hgk
  have HDI := hide hDi
  have HD1I := hide hD1i
  have HD2I := hide hD2i
  have BL10 : Hid (Bl w10.heap.size w10 gp gw gb (.slice av ks.length cv) 0 0 [] []) := ⟨_, _, Q10.out.1, World.ownsRow_nil _ _ _ _, World.ownsRow_nil _ _ _ _⟩
  have BEL : Hid (∀ W, Mv w10 W D2 → Below B0 w W) := fun W hW => ((Mv.of_below b010 D2).trans hW (fun _ _ e => e)).below (by omega) (fun q e => by rw [hD2i, hD1i, hDi] at e; omega)
  have J15 := hide (rows_none BL10.out (by omega) (Nat.le_refl _) (by omega) a1 d1)
  clear b810 b610 b410 b210 b010 hApt hL hLb hgk hKq hD hDi hD1 hD1i hD2 hD2i B1 B2 B3 B4 B5 B6 B7 B8 B9 B10 X3 Y4 K5 K6 M7 N8 S2 R1 X9 KV9 Q9 Q10 HV BL10
  go_wp2_with fail
  refine J15.out.mono ?_
  rintro e w11 ⟨rfl, bl11, mv11⟩
  have BL11 := hide bl11
  have R11 : Hid (w11.ownsRow w.heap.size 87 3 (.slice a1 0 d1) 0 []) := mv11.own R10.out (fun q q1 e => by have := R1B.out q q1; omega)
  have E11 : Hid (Mv w10 w11 (fun q => q = gp ∨ w10.heap.size ≤ q)) := mv11
  have J16 := hide (grows_one bl11 rfl (by omega) mv11.size (by omega) (al := a1) (cl := d1) rfl (m := ((1000000 + 0 : Nat) : Int)) rfl R11.out (by have := mv11.size; omega) (fun e => by have := R1B.out gp e; omega))
  clear J15 bl11 mv11 c0 c1 c2 cm10
  go_wp2_with fail
  refine J16.out.mono ?_
  rintro e w12 ⟨rfl, ⟨u12, bl12⟩, mv12⟩
  have BL12 := hide bl12
  have E12 : Hid (Mv w10 w12 (fun q => q = gp ∨ w10.heap.size ≤ q ∨ (w.heap.size ≤ q ∧ q < w1.heap.size))) := (E11.out.mono (fun q _ e => by omega)).trans mv12 (fun q _ e => by
    rcases e with e | e | e
    · exact .inl e
    · exact .inr (.inl e)
    · exact .inr (.inr (R1B.out q e)))
  have X12 : Mo w12 w2.heap.size n3 := X10.out.same (E12.out.2.2.2.2 _ (by omega) (fun e => by omega))
  have KQ12 : Hid (Kq w4.heap.size w12 gk ck ks L 0) := KQ10.out.mv E12.out (fun e => by have := HGK.out; omega) (fun j hj q e e' => by have := HLB.out j hj q e; omega)
  have M12 : Hid (w12.ownsRow w6.heap.size 5 1 (.slice (some ⟨gm7, 0, none⟩) 2 cm7) 2 (Lib.byteCells [0, 0])) := E12.out.own M10.out (fun q q1 e => by
    simp only [Value.ownBlock, Option.some.injEq] at q1
    have := M7B.out
    omega)
  obtain ⟨w13, r13, X13, mv13⟩ := X12.store (by omega) (-1) 7 (by omega) (by omega)
  obtain ⟨w14, r14, X14, mv14⟩ := X13.store (by omega) 2 1000 (by omega) (by omega)
  have E14 : Hid (Mv w12 w14 (fun q => q = w2.heap.size)) := mv13.trans mv14 (fun _ _ e => e)
  have KQ14 : Hid (Kq w4.heap.size w14 gk ck ks L 0) := KQ12.out.mv E14.out (fun e => by have := HGK.out; omega) (fun j hj q e e' => by have := HLB.out j hj q e; omega)
  have M14 : Hid (w14.ownsRow w6.heap.size 5 1 (.slice (some ⟨gm7, 0, none⟩) 2 cm7) 2 (Lib.byteCells [0, 0])) := E14.out.own M12.out (fun q q1 e => by
    simp only [Value.ownBlock, Option.some.injEq] at q1
    have := M7B.out
    omega)
  have BL14 : Hid (Bl w10.heap.size w14 gp gw gb (.slice av ks.length cv) 2 2 ([] ++ [.slice a1 0 d1] ++ [u12]) ([] ++ [.int .i64 ((1000000 + 0 : Nat) : Int)] ++ [.int .i64 ((1000000 + 0 : Nat) : Int)])) := BL12.out.off E14.out (by omega) (fun q hq e => by omega)
  have V14 : Hid (Mv w10 w14 D) := (E12.out.mono (fun q _ e => by rw [HDI.out]; omega)).trans E14.out (fun q _ e => by rw [HDI.out]; omega)
  have hs14 := V14.out.size
  clear J16 bl12 mv12 X12 X13 X14 mv13 mv14 E11 E12 E14 BL11 BL12 KQ10 KQ12 M10 M12 R10 R11 X10
  have qm : ∀ (w : World) (g : Nat), (binOp .neq 80 (.map (some g)) (.map none)).run Tryz.prog w = .ok (.bool true) w := fun w g => run_neq_map_nil w 80 _ _ (some g) Tryz.underlying80
  go_wp2_with fail
  go_loopw [17] (fun v17 W => ∃ i : Nat, i ≤ ks.length ∧ v17 = .int .i64 (i : Int) ∧ Hid (Kq w4.heap.size W gk ck ks L i) ∧ Hid (Mv w14 W (fun q => w4.heap.size ≤ q ∧ q < w5.heap.size))) (fun v17 _ => ks.length - (intOf v17).toNat)
  case atStart => exact ⟨0, Nat.zero_le _, rfl, KQ14, Mv.refl _ _⟩
  case round =>
    clear r13 r14
    obtain ⟨i, hil, rfl, HKQ, HM⟩ := hrel
    have hswr := HM.out.size
    by_cases hlt : i < ks.length
    · have t1 : (i : Int) < (ks.length : Int) := by omega
      obtain ⟨wo, rfl⟩ : ∃ X, X = wr := ⟨_, rfl⟩
      obtain ⟨y1, y2⟩ := HKQ.out.at HL.out hlt
      have hfl := HF4.out _ (List.getElem_mem hlt)
      have HT : Hid (∀ W2, Mv wo W2 (fun q => (kcV (L[i]'(by rw [HL.out]; exact hlt))).ownBlock = some q) → ∀ (a2 : Option Addr) (n2 c2 : Nat), (∃ u, W2.cell? ⟨gk, i * 2, none⟩ = some u) ∧ (∃ u, W2.cell? ⟨gk, i * 2 + 1, none⟩ = some u) ∧ (∀ j, W2.frozen? ⟨gk, j, none⟩ = false) ∧ Kq w4.heap.size ((W2.setCell ⟨gk, i * 2, none⟩ (.string ovl)).setCell ⟨gk, i * 2 + 1, none⟩ (.slice a2 n2 c2)) gk ck ks L (i + 1)) := fun W2 hm a2 n2 c2 => HKQ.out.turn HL.out HApt.out hlt hm a2 n2 c2
      have HBQ : Hid (∀ q, (kcV (L[i]'(by rw [HL.out]; exact hlt))).ownBlock = some q → w4.heap.size ≤ q ∧ q < w5.heap.size) := fun q e => HLB.out i (by rw [HL.out]; exact hlt) q e
      generalize kcV (L[i]'(by rw [HL.out]; exact hlt)) = vf at *
      generalize ks[i].2 = fs at *
      obtain ⟨ai, ci, rfl⟩ := own_len y2
      have Y2 := hide y2
      clear y2 HKQ
      go_wp2_with fail
      clear y1
      go_loopw [19] (fun v19 W => ∃ (j : Nat) (xs : List Value), j ≤ fs.length ∧ v19 = .int .i64 (j : Int) ∧ Hid (Mv wo W (fun q => (Value.slice ai fs.length ci).ownBlock = some q)) ∧ Hid (W.ownsRow w4.heap.size 9 1 (.slice ai fs.length ci) fs.length xs)) (fun v19 _ => fs.length - (intOf v19).toNat)
      case atStart => exact ⟨0, _, Nat.zero_le _, rfl, Mv.refl _ _, Y2⟩
      case round =>
        obtain ⟨j, xs, hj, rfl, HM2, HR2⟩ := hrel
        by_cases hj2 : j < fs.length
        · have u1 : (j : Int) < (fs.length : Int) := by omega
          obtain ⟨gi, ci', ef, -, -⟩ := own_form HR2.out (by omega)
          simp only [Value.slice.injEq, true_and] at ef
          obtain ⟨rfl, rfl⟩ := ef
          have hst := HR2.out.stored j (.string ovl)
          obtain ⟨u, hu⟩ : ∃ u, xs[j]? = some u := ⟨_, List.getElem?_eq_getElem (by have := HR2.out.1; omega)⟩
          have hcell := HR2.out.cellAt j (by omega)
          rw [hu] at hcell
          have hfz := HR2.out.frozenAt j
          have HST := hide hst.1
          clear hst hu
          go_wp2_with fail
          go_roundw
          case rel => exact ⟨j + 1, _, by omega, by go_num, HM2.out.set (g := gi) rfl _ _, HST⟩
          case measure => simp [intOf]; omega
        · have u1 : ¬ (j : Int) < (fs.length : Int) := by omega
          have hsw2 := HM2.out.size
          go_wp2_with (at_builtin; refine wpList_append_texts rfl _ _ rfl w4.heap.size (.slice ai fs.length ci) fs.length xs rfl (HR2.out.alloc _) (.slice (some ⟨wr.heap.size, 0, none⟩) 5 5) [ovl, ovl, ovl, ovl, ovl] rfl sr_five (by simp; omega) (by simp; omega) ?_)
          intro f9 w9' o9 g9 _
          have HM3 : Hid (Mv wo w9' (fun q => (Value.slice ai fs.length ci).ownBlock = some q)) := (HM2.out.alloc _).grown g9 (fun q _ e => e)
          obtain ⟨gf, cf, rfl, -, -⟩ := own_form o9 (by simp)
          obtain ⟨⟨z1, y1⟩, ⟨z2, y2⟩, y3, y5⟩ := HT.out _ HM3.out (some ⟨gf, 0, none⟩) (fs.length + [ovl, ovl, ovl, ovl, ovl].length) cf
          have f1 := y3 (i * 2)
          have f2 := y3 (i * 2 + 1)
          have HSU := hide y5
          clear y3 y5 o9 g9
          go_wp2_with fail
          go_roundw
          case rel => exact ⟨i + 1, by omega, by go_num, HSU, ((HM.out.trans HM3.out (fun q _ e => HBQ.out q e)).set (g := gk) HGK.out _ _).set (g := gk) HGK.out _ _⟩
          case measure => simp [intOf]; omega
    · have t1 : ¬ (i : Int) < (ks.length : Int) := by omega
      obtain ⟨Mk, mk1, mk2, -⟩ := HKQ.out
      have MK := hide mk2
      clear mk2 HKQ
      go_wp2_with (at_builtin; refine wpList_append_own_at _ rfl _ _ 22 rfl w4.heap.size 119 i0 (.agg #[.string ⟨#[]⟩, .slice none 0 0]) 2 40 Tryz.underlying22 hi0 hz0 hz1 hz2 rfl (by decide) _ ks.length (kz Mk) rfl (MK.out.alloc _) ⟨wr.heap.size, 0, none⟩ 2 2 [.string ovl, .slice none 0 0, .string ovl, .slice none 0 0] rfl rfl ?c1 ?c2 (by unfold maxLen; omega) (by omega) ?c5 ?_)
      try (case c1 => intro j u hj; match j, hj with | 0, hj => simp at hj; subst hj; simp [ovl] | 1, hj => simp at hj; subst hj; simp | 2, hj => simp at hj; subst hj; simp [ovl] | 3, hj => simp at hj; subst hj; simp)
      try (case c2 => repeat' (first | exact rfl | refine ⟨?_, ?_⟩))
      try (case c5 => first | omega | (simp; omega))
      intro v15 w15 o15 g15 _ _
      have E15 : Hid (Mv w14 w15 (fun q => w4.heap.size ≤ q ∧ q < w5.heap.size)) := (HM.out.alloc _).grown g15 (fun q _ e => by
        simp only [Value.ownBlock, Option.some.injEq] at e
        have := HGK.out
        omega)
      obtain ⟨gk15, ck15, rfl, -, -⟩ := own_form o15 (by omega)
      have M15 : Hid (w15.ownsRow w6.heap.size 5 1 (.slice (some ⟨gm7, 0, none⟩) 2 cm7) 2 (Lib.byteCells [0, 0])) := E15.out.own M14.out (fun q q1 e => by
        simp only [Value.ownBlock, Option.some.injEq] at q1
        have := M7B.out
        omega)
      have BL15 : Hid (Bl w10.heap.size w15 gp gw gb (.slice av ks.length cv) 2 2 ([] ++ [.slice a1 0 d1] ++ [u12]) ([] ++ [.int .i64 ((1000000 + 0 : Nat) : Int)] ++ [.int .i64 ((1000000 + 0 : Nat) : Int)])) := BL14.out.off E15.out (by omega) (fun q hq e => by omega)
      have V15 : Hid (Mv w10 w15 D) := V14.out.trans E15.out (fun q _ e => by rw [HDI.out]; omega)
      have hs15 := V15.out.size
      clear o15 g15 MK HM E15 M14 BL14 V14 KQ14 HApt HL HLB
      go_wp2_with fail
      go_loopw [20] (fun v20 W => ∃ (j : Nat) (xs : List Value), j ≤ 2 ∧ v20 = .int .i64 (j : Int) ∧ Hid (Mv w15 W (fun q => w6.heap.size ≤ q ∧ q < w7.heap.size)) ∧ Hid (W.ownsRow w6.heap.size 5 1 (.slice (some ⟨gm7, 0, none⟩) 2 cm7) 2 xs)) (fun v20 _ => 2 - (intOf v20).toNat)
      case atStart => exact ⟨0, _, Nat.zero_le _, rfl, Mv.refl _ _, M15⟩
      case round =>
        obtain ⟨j, xs, hj, rfl, HM2, HR2⟩ := hrel
        by_cases hj2 : j < 2
        · have u1 : (j : Int) < 2 := by omega
          have hst := HR2.out.stored j (.int .u8 201)
          obtain ⟨u, hu⟩ : ∃ u, xs[j]? = some u := ⟨_, List.getElem?_eq_getElem (by have := HR2.out.1; omega)⟩
          have hcell := HR2.out.cellAt j (by omega)
          rw [hu] at hcell
          have hfz := HR2.out.frozenAt j
          have HST := hide hst.1
          clear hst hu
          go_wp2_with fail
          go_roundw
          case rel => exact ⟨j + 1, _, by omega, by go_num, HM2.out.set (g := gm7) M7B.out _ _, HST⟩
          case measure => simp [intOf]; omega
        · have u1 : ¬ (j : Int) < 2 := by omega
          have hsw2 := HM2.out.size
          obtain ⟨w16, rfl⟩ : ∃ X, X = wr := ⟨_, rfl⟩
          go_wp2_with fail
          go_loopw [11, 21] (fun v11 v21 W => ∃ (k : Nat) (ys : List Value), k ≤ 70 ∧ v21 = .int .i64 (k : Int) ∧ Hid (Mv w16 W (fun q => w6.heap.size ≤ q ∧ q < w7.heap.size)) ∧ Hid (W.ownsRow w6.heap.size 5 1 v11 (2 + k) ys ∧ ∀ q, v11.ownBlock = some q → (w6.heap.size ≤ q ∧ q < w7.heap.size) ∨ w16.heap.size ≤ q)) (fun _ v21 _ => 70 - (intOf v21).toNat)
          case atStart => exact ⟨0, _, Nat.zero_le _, rfl, Mv.refl _ _, HR2.out, fun q e => by
            simp only [Value.ownBlock, Option.some.injEq] at e
            have := M7B.out
            omega⟩
          case round =>
            obtain ⟨k, ys, hk, rfl, HM3, HR3⟩ := hrel
            obtain ⟨a11, c11, rfl⟩ := own_len HR3.out.1
            have hsw3 := HM3.out.size
            by_cases hk2 : k < 70
            · have u2 : (k : Int) < 70 := by omega
              go_wp2_with (at_builtin; refine wpList_append_own_at _ rfl _ _ 51 rfl w6.heap.size 5 i5 (.int .u8 0) 1 1 under51 hi5 hx0 hx1 hx2 rfl (by decide) _ (2 + k) ys rfl (HR3.out.1.alloc _) ⟨wr.heap.size, 0, none⟩ 1 1 [.int .u8 201] rfl rfl ?d1 ?d2 (by unfold maxLen; omega) (by omega) ?d5 ?_)
              try (case d1 => intro j u hj; match j, hj with | 0, hj => simp at hj; subst hj; simp [Addr.add])
              try (case d2 => first | (intro u hu; simp at hu; subst hu; rfl) | exact rfl)
              try (case d5 => first | omega | (simp; omega))
              intro v9 w9' o9 g9 _ b9
              have HM4 : Hid (Mv w16 w9' (fun q => w6.heap.size ≤ q ∧ q < w7.heap.size)) := (HM3.out.alloc _).grown g9 (fun q hq e => (HR3.out.2 q e).resolve_right (by omega))
              have HR4 : Hid (w9'.ownsRow w6.heap.size 5 1 v9 (2 + (k + 1)) (ys ++ [.int .u8 201]) ∧ ∀ q, v9.ownBlock = some q → (w6.heap.size ≤ q ∧ q < w7.heap.size) ∨ w16.heap.size ≤ q) := ⟨o9, fun q e => by
                rcases b9 with b9 | b9
                · exact HR3.out.2 q (b9 ▸ e)
                · rw [b9] at e
                  simp only [Option.some.injEq] at e
                  try simp at e
                  omega⟩
              obtain ⟨g11, c11', rfl, -, -⟩ := own_form o9 (by omega)
              clear o9 g9 b9
              go_wp2_with fail
              go_roundw
              case rel => exact ⟨k + 1, _, by omega, by go_num, HM4, HR4⟩
              case measure => simp [intOf]; omega
            · have u2 : ¬ (k : Int) < 70 := by omega
              have E17 : Hid (Mv w15 wr (fun q => w6.heap.size ≤ q ∧ q < w7.heap.size)) := HM2.out.trans HM3.out (fun _ _ e => e)
              have BL17 : Hid (Bl w10.heap.size wr gp gw gb (.slice av ks.length cv) 2 2 ([] ++ [.slice a1 0 d1] ++ [u12]) ([] ++ [.int .i64 ((1000000 + 0 : Nat) : Int)] ++ [.int .i64 ((1000000 + 0 : Nat) : Int)])) := BL15.out.off E17.out (by omega) (fun q hq e => by omega)
              have V17 : Hid (Mv w10 wr D) := V15.out.trans E17.out (fun q _ e => by rw [HDI.out]; omega)
              clear HM2 HR2 HM3 HR3 E17 BL15 V15 M15
              obtain ⟨w17, rfl⟩ : ∃ X, X = wr := ⟨_, rfl⟩
              have T17 : Hid (Mv w10 w17 D1 ∧ Mv w10 w17 D2) := ⟨V17.out.mono (fun q _ e => by rw [HD1I.out]; exact .inl e), V17.out.mono (fun q _ e => by rw [HD2I.out, HD1I.out]; exact .inl (.inl e))⟩
              have J17 := hide (rows_same0 w17 a2 none d2 0)
              have J18 := hide (shapes_none (KY.out w17 T17.out.1))
              have J19 := hide (same_kinds (KL.out w17 T17.out.2) (KV.out w17 T17.out.2))
              have S17 := hide (KS.out w17 V17.out)
              have c2 : w17.cell? ⟨gp, 2, none⟩ = some (.slice av ks.length cv) := by
                obtain ⟨vr, vz, p1, -⟩ := BL17.out
                exact p1.cell.2.2.1
              go_wp2_with fail
              refine J17.out.mono ?_
              rintro e w17' ⟨rfl, rfl⟩
              obtain ⟨w17, rfl⟩ : ∃ X, X = w17' := ⟨_, rfl⟩
              clear J17
              go_wp2_with fail
              refine J18.out.mono ?_
              rintro e w17' ⟨rfl, rfl⟩
              obtain ⟨w17, rfl⟩ : ∃ X, X = w17' := ⟨_, rfl⟩
              clear J18
              go_wp2_with fail
              refine J19.out.mono ?_
              rintro e w18 ⟨rfl, b18⟩
              have BL18 := hide (BL17.out.off (Mv.of_below b18 (fun _ => False)) (fun e => e) (fun _ _ e => e))
              have V18 : Hid (Mv w10 w18 D) := V17.out.later b18
              have hs18 := V18.out.size
              have J20 := hide (rows_none BL18.out (by omega) hs18 (by omega) a2 d2)
              clear J19 b18 BL17 V17 T17 S17 c2
              go_wp2_with fail
              refine J20.out.mono ?_
              rintro e w19 ⟨rfl, bl19, mv19⟩
              have V19 : Hid (Mv w10 w19 D) := V18.out.trans mv19 (fun q _ e => by rw [HDI.out]; omega)
              have S19 := hide (KS.out w19 V19.out)
              have hs19 := V19.out.size
              have J21 := hide (grows_one bl19 rfl (by omega) hs19 (by omega) (al := a2) (cl := d2) rfl (m := ((1000000 + 2 : Nat) : Int)) rfl S19.out (by omega) (fun e => by have := S2B.out gp e; omega))
              clear J20 bl19 mv19 BL18 V18
              go_wp2_with fail
              refine J21.out.mono ?_
              rintro e w20 ⟨rfl, ⟨u20, bl20⟩, mv20⟩
              have V20 : Hid (Mv w10 w20 D1) := (V19.out.mono (fun q _ e => by rw [HD1I.out]; exact .inl e)).trans mv20 (fun q _ e => by
                rw [HD1I.out, HDI.out]
                rcases e with e | e | e
                · exact .inl (.inl e)
                · exact .inl (.inr (.inl e))
                · exact .inr (S2B.out q e))
              obtain ⟨w21, r21, -, mv21⟩ := (KY.out w20 V20.out).mo.store (by omega) (-2) 8 (by omega) (by omega)
              have V21 : Hid (Mv w10 w21 D2) := (V20.out.mono (fun q _ e => by rw [HD2I.out]; exact .inl e)).trans mv21 (fun q _ e => by rw [HD2I.out]; exact .inr (by omega))
              have cn := KN.out w21 V21.out
              have c2 : w21.cell? ⟨gp, 2, none⟩ = some (.slice av ks.length cv) := by
                obtain ⟨vr, vz, p1, -⟩ := bl20
                exact (p1.mv mv21 (by omega)).cell.2.2.1
              have HE := hide (BEL.out w21 V21.out)
              have tw : IntKind.i64.wrap ((ks.length : Int) + 2) = ((ks.length + 2 : Nat) : Int) := by rw [IntKind.wrap_i64]; omega
              clear J21 bl20 mv20 mv21 V19 V20 V21 S19 KY KN KS KL KV BEL
              go_wp2_with fail
              go_ret
              exact ⟨rfl, HE.out⟩
end Go.Proofs.YtafmiolehlagkaaGreat

/-
  World: kinds that come in, opened.
-/
namespace Go.Proofs.YtafmiolehlagkaaGreat
open Go.ChangeShapes Go.WideShapes Go.ChangeAt Go.RowKit
set_option maxRecDepth 100000
theorem mem_all {H : Type} {P : Program} {e : TypeId} {d : DataW H} : ∀ {l : List (DataW H)}, d ∈ l → ∀ n ∈ d.weights P e, n ∈ DataW.weightsAll P e l
  | a :: r, h, n, hn => by
    unfold DataW.weightsAll
    rcases List.mem_cons.1 h with rfl | h
    · exact List.mem_append_left _ hn
    · exact List.mem_append_right _ (mem_all h n hn)
theorem texts_cells {H : Type} {enc : TypeId × Value → H} {W : World} {m : Nat} {cs : List Value} {y : DataW H × List MemPlace} (h : DataW.trod enc Tryz.prog W 0 (fun _ => true) true m 41 cs = some y) (hw : ∀ n ∈ y.1.weights Tryz.prog 41, n ≤ reachBytes) :
    ∃ v l, cs = [v] ∧ Sr W v l ∧ l.length * 16 ≤ 140737488351232 ∧ ∀ x ∈ l, Small x := by
  rcases DataW.trod_slice Tryz.underlying41 h with ⟨rfl, _⟩ | ⟨a, len, cap, elems, rest, n, _, rfl, hx, _, hl, hm, hlen, hel, _, _⟩
  · exact ⟨_, [], rfl, ⟨none, 0, rfl, Nat.le_refl _, Nat.zero_le _, fun j hj => absurd hj (by simp)⟩, by simp, fun x hx => by cases hx⟩
  · have hc1 : Tryz.prog.cellsOf 9 = 1 := by kernel_rfl
    have hsz : len * 16 ≤ 140737488351232 := by
      have hb : Tryz.prog.bytesOf 9 = 16 := by kernel_rfl
      have := hw ((elems.length + rest.length) * 16) (by
        rw [hx]
        unfold DataW.weights
        rw [Tryz.underlying41]
        dsimp only
        rw [hb, List.length_map, List.length_map]
        exact List.mem_cons_self)
      unfold reachBytes at this
      omega
    have spot0 : 0 < len → ∃ b off, a = ⟨b, off, none⟩ := fun hp => by
      have h1 := hel 0 hp
      rw [List.getElem?_eq_getElem (by omega), hc1, Option.bind_eq_some_iff] at h1
      obtain ⟨cs', hcs', ht'⟩ := h1
      obtain ⟨s, hd, _, hsm⟩ := DataW.trod_string Tryz.underlying9 ht'
      obtain ⟨_, _, hcell⟩ := World.cells?_some hcs'
      have q0 := hcell 0 (by omega)
      rw [hd] at q0
      have q1 : W.cell? _ = some (.string s) := q0
      obtain ⟨b, off, spot⟩ := a
      have hspot : spot = none := by simpa [Addr.add] using World.cell?_spot q1
      subst hspot
      exact ⟨b, off, rfl⟩
    have one : ∀ i, i < len → ∃ s : ByteArray, ∃ b off, a = ⟨b, off, none⟩ ∧ W.cell? ⟨b, off + i, none⟩ = some (.string s) ∧ Small s := fun i hi => by
      obtain ⟨b, off, ha⟩ := spot0 (by omega)
      have h1 := hel i hi
      rw [List.getElem?_eq_getElem (by omega), hc1, Option.bind_eq_some_iff] at h1
      obtain ⟨cs', hcs', ht'⟩ := h1
      obtain ⟨s, hd, _, hsm⟩ := DataW.trod_string Tryz.underlying9 ht'
      obtain ⟨_, _, hcell⟩ := World.cells?_some hcs'
      have q0 := hcell 0 (by omega)
      rw [hd, ha, Go.WideShapes.add_plain, Go.WideShapes.add_plain] at q0
      refine ⟨s, b, off, ha, ?_, hsm⟩
      simpa using q0
    have all : ∀ k, k ≤ len → ∃ l : List ByteArray, l.length = k ∧ (∀ x ∈ l, Small x) ∧ ∀ j (hj : j < l.length), ∃ g o, (some a : Option Addr) = some ⟨g, o, none⟩ ∧ W.cell? ⟨g, o + j, none⟩ = some (.string l[j]) := by
      intro k
      induction k with
      | zero => exact fun _ => ⟨[], rfl, fun x hx => (by cases hx), fun j hj => absurd hj (by simp)⟩
      | succ k ih =>
        intro hk
        obtain ⟨l, e1, e2, e3⟩ := ih (by omega)
        obtain ⟨s, b, off, ha, hc, hs⟩ := one k (by omega)
        refine ⟨l ++ [s], by simp [e1], fun x hx => ?_, fun j hj => ?_⟩
        · rcases List.mem_append.1 hx with hx | hx
          · exact e2 x hx
          · rw [List.mem_singleton.1 hx]; exact hs
        · by_cases c : j < l.length
          · rw [List.getElem_append_left c]
            exact e3 j c
          · have hje : j = l.length := by simp at hj; omega
            subst hje
            rw [List.getElem_append_right (Nat.le_refl _)]
            simp only [Nat.sub_self, List.getElem_cons_zero]
            exact ⟨b, off, by rw [ha], by rw [e1]; exact hc⟩
    obtain ⟨l, e1, e2, e3⟩ := all len (Nat.le_refl _)
    subst e1
    exact ⟨_, l, rfl, ⟨some a, cap, rfl, hl, hm, e3⟩, hsz, e2⟩
theorem kind_cells {H : Type} {enc : TypeId × Value → H} {W : World} {m : Nat} {cs : List Value} {y : DataW H × List MemPlace} (h : DataW.trod enc Tryz.prog W 0 (fun _ => true) true m 119 cs = some y) (hw : ∀ n ∈ y.1.weights Tryz.prog 119, n ≤ reachBytes) :
    ∃ (nm : ByteArray) (vf : Value) (fs : List ByteArray), cs[0]? = some (.string nm) ∧ cs[1]? = some vf ∧ Sr W vf fs ∧ fs.length * 16 ≤ 140737488351232 ∧ Small nm ∧ ∀ x ∈ fs, Small x := by
  obtain ⟨xs, n, _, hx, _, hxl, hfs⟩ := DataW.trod_struct Tryz.underlying119 h
  have hxl2 : xs.length = 2 := hxl
  have g0 := hfs 0 _ rfl
  have g1 := hfs 1 _ rfl
  rw [List.getElem?_eq_getElem (by omega)] at g0 g1
  have c9 : Tryz.prog.cellsOf 9 = 1 := by kernel_rfl
  have c41 : Tryz.prog.cellsOf 41 = 1 := by kernel_rfl
  obtain ⟨nm, hd, _, hsm⟩ := DataW.trod_string Tryz.underlying9 g0
  have hw1 : ∀ n ∈ (xs[1]'(by omega)).1.weights Tryz.prog 41, n ≤ reachBytes := fun n hn => hw n (by
    rw [hx]
    unfold DataW.weights
    rw [Tryz.underlying119]
    dsimp only
    exact DataW.weights_mem_each (j := 1) (t := 41) (d := (xs[1]'(by omega)).1) rfl (by rw [List.getElem?_map, List.getElem?_eq_getElem (by omega)]; rfl) n hn)
  obtain ⟨vf, fs, hv, hsr, hl, hss⟩ := texts_cells g1 hw1
  refine ⟨nm, vf, fs, ?_, ?_, hsr, hl, hsm, hss⟩
  · have hd : (cs.drop 0).take (Tryz.prog.cellsOf 9) = [.string nm] := hd
    rw [c9] at hd
    have h2 := congrArg (fun l => l[0]?) hd
    simpa [List.getElem?_take, List.getElem?_drop] using h2
  · have hv : (cs.drop 1).take (Tryz.prog.cellsOf 41) = [vf] := hv
    rw [c41] at hv
    have h2 := congrArg (fun l => l[0]?) hv
    simpa [List.getElem?_take, List.getElem?_drop] using h2
theorem kinds_arg {H : Type} {enc : TypeId × Value → H} {W : World} {a0 : Option Addr} {len0 cap0 : Nat} {d0 : DataW H} {p0 : List MemPlace} (h0 : DataW.Trod enc Tryz.prog W 0 (fun _ => true) true 22 (.slice a0 len0 cap0) d0 p0) (hw : ∀ n ∈ d0.weights Tryz.prog 22, n ≤ reachBytes) : ∃ ks : List Kind, Kr W (.slice a0 len0 cap0) ks ∧ Sz ks := by
  obtain ⟨fuel, hf⟩ := h0
  rcases DataW.trod_slice Tryz.underlying22 hf with ⟨hcs, _⟩ | ⟨a, len, cap, elems, rest, n, _, hcs, hx, _, hl, hm, hlen, hel, _, _⟩
  · simp [Value.cells] at hcs
    obtain ⟨rfl, rfl, rfl⟩ := hcs
    exact ⟨[], ⟨none, 0, rfl, Nat.le_refl _, Nat.zero_le _, fun i hi => absurd hi (by simp)⟩, by simp, fun k hk => by cases hk⟩
  · simp [Value.cells] at hcs
    obtain ⟨rfl, rfl, rfl⟩ := hcs
    have hc2 : Tryz.prog.cellsOf 119 = 2 := by kernel_rfl
    have hd0 : d0 = .slice (elems.map (·.1)) (rest.map (·.1)) := congrArg Prod.fst hx
    have hsz : len0 * 40 ≤ 140737488351232 := by
      have hb : Tryz.prog.bytesOf 119 = 40 := by kernel_rfl
      have := hw ((elems.length + rest.length) * 40) (by
        rw [hd0]
        unfold DataW.weights
        rw [Tryz.underlying22]
        dsimp only
        rw [hb, List.length_map, List.length_map]
        exact List.mem_cons_self)
      unfold reachBytes at this
      omega
    have hwi : ∀ i (hi : i < elems.length), ∀ n ∈ elems[i].1.weights Tryz.prog 119, n ≤ reachBytes := fun i hi n hn => hw n (by
      rw [hd0]
      unfold DataW.weights
      rw [Tryz.underlying22]
      dsimp only
      exact List.mem_cons_of_mem _ (List.mem_append_left _ (mem_all (List.mem_map.2 ⟨elems[i], List.getElem_mem hi, rfl⟩) n hn)))
    have spot0 : 0 < len0 → ∃ b off, a = ⟨b, off, none⟩ := fun hp => by
      have h1 := hel 0 hp
      rw [List.getElem?_eq_getElem (by omega), hc2, Option.bind_eq_some_iff] at h1
      obtain ⟨cs', hcs', ht'⟩ := h1
      obtain ⟨nm, vf, fs, k0, -⟩ := kind_cells ht' (hwi 0 (by omega))
      obtain ⟨_, _, hcell⟩ := World.cells?_some hcs'
      have q0 := (hcell 0 (by omega)).trans k0
      obtain ⟨b, off, spot⟩ := a
      have hspot : spot = none := by simpa [Addr.add] using World.cell?_spot q0
      subst hspot
      exact ⟨b, off, rfl⟩
    have one : ∀ i, i < len0 → ∃ (k : Kind) (vf : Value) (b off : Nat), a = ⟨b, off, none⟩ ∧ W.cell? ⟨b, off + i * 2, none⟩ = some (.string k.1) ∧ W.cell? ⟨b, off + i * 2 + 1, none⟩ = some vf ∧ Sr W vf k.2 ∧ (k.2.length * 16 ≤ 140737488351232 ∧ Small k.1 ∧ ∀ x ∈ k.2, Small x) := fun i hi => by
      have h1 := hel i hi
      rw [List.getElem?_eq_getElem (by omega), hc2, Option.bind_eq_some_iff] at h1
      obtain ⟨cs', hcs', ht'⟩ := h1
      obtain ⟨nm, vf, fs, k0, k1, k2, k3, k4, k5⟩ := kind_cells ht' (hwi i (by omega))
      obtain ⟨_, _, hcell⟩ := World.cells?_some hcs'
      have q0 := (hcell 0 (by omega)).trans k0
      have q1 := (hcell 1 (by omega)).trans k1
      obtain ⟨b, off, rfl⟩ := spot0 (by omega)
      rw [Go.WideShapes.add_plain, Go.WideShapes.add_plain] at q0 q1
      exact ⟨(nm, fs), vf, b, off, rfl, q0, q1, k2, k3, k4, k5⟩
    have all : ∀ k, k ≤ len0 → ∃ ks : List Kind, ks.length = k ∧ (∀ x ∈ ks, x.2.length * 16 ≤ 140737488351232 ∧ Small x.1 ∧ ∀ y ∈ x.2, Small y) ∧ ∀ i (hi : i < ks.length), ∃ g o vf, (some a : Option Addr) = some ⟨g, o, none⟩ ∧ W.cell? ⟨g, o + i * 2, none⟩ = some (.string ks[i].1) ∧ W.cell? ⟨g, o + i * 2 + 1, none⟩ = some vf ∧ Sr W vf ks[i].2 := by
      intro k
      induction k with
      | zero => exact fun _ => ⟨[], rfl, fun x hx => (by cases hx), fun j hj => absurd hj (by simp)⟩
      | succ k ih =>
        intro hk
        obtain ⟨l, e1, e2, e3⟩ := ih (by omega)
        obtain ⟨s, vf, b, off, ha, z1, z2, z3, z4⟩ := one k (by omega)
        refine ⟨l ++ [s], by simp [e1], fun x hx => ?_, fun j hj => ?_⟩
        · rcases List.mem_append.1 hx with hx | hx
          · exact e2 x hx
          · rw [List.mem_singleton.1 hx]; exact z4
        · by_cases c : j < l.length
          · rw [List.getElem_append_left c]
            exact e3 j c
          · have hje : j = l.length := by simp at hj; omega
            subst hje
            rw [List.getElem_append_right (Nat.le_refl _)]
            simp only [Nat.sub_self, List.getElem_cons_zero]
            exact ⟨b, off, vf, by rw [ha], by rw [e1]; exact z1, by rw [e1]; exact z2, z3⟩
    obtain ⟨ks, e1, e2, e3⟩ := all len0 (Nat.le_refl _)
    subst e1
    exact ⟨ks, ⟨some a, cap0, rfl, hl, hm, e3⟩, hsz, e2⟩
end Go.Proofs.YtafmiolehlagkaaGreat

/-
  WorldNew, for every input.
-/
namespace Go.Proofs.YtafmiolehlagkaaGreat
open Go.ChangeShapes Go.WideShapes Go.ChangeAt Go.RowKit
set_option maxRecDepth 100000
set_option maxHeartbeats 8000000 in
theorem new_walk {w : World} {v : Value} {ks : List Kind} (h : Kr w v ks) (hz : Sz ks) : Calls Tryz.prog 5 #[v] w fun e w' => e = .returned (.bool true) ∧ Below w.heap.size w w' := by
  have HK := hide h
  obtain ⟨ao, c, rfl, -⟩ := h
  go_enter Tryz.func5, Tryz.ntmps5
  go_wp2_with fail
  refine (shown_any w).mono ?_
  rintro e w1 ⟨rfl, b1⟩
  have B1 := hide b1
  have K1 := hide (HK.out.later b1)
  clear b1
  by_cases hm : mayB ks
  · have J := hide (made_any K1.out hz hm)
    go_wp2_with fail
    refine J.out.mono ?_
    rintro e w2 ⟨gp, gw, gb, rfl, ⟨hgp, hp⟩, ⟨own, hW⟩, ⟨-, hD⟩, b2⟩
    have B2 := hide b2
    have JA := hide (all_any (B0 := w1.heap.size) (w := w2) (gp := gp) (gw := gw) (gb := gb) (v := .slice ao ks.length c) (ks := ks) ⟨hp, ⟨own, _, hW⟩, hD⟩ (fun W hWb => K1.out.later (b2.trans hWb)) hgp)
    clear J hgp hp hW hD b2
    go_wp2_with fail
    refine JA.out.mono ?_
    rintro e w3 ⟨rfl, b3⟩
    have B3 : Hid (Below w.heap.size w w3) := below_on B1.out (B2.out.trans b3)
    clear b3 JA
    go_wp2_with fail
    go_ret
    exact ⟨rfl, B3.out⟩
  · have J := hide (made_bad K1.out hz hm)
    go_wp2_with fail
    refine J.out.mono ?_
    rintro e w2 ⟨rfl, b2⟩
    have B2 : Hid (Below w.heap.size w w2) := below_on B1.out b2
    clear J b2
    go_wp2_with fail
    go_ret
    exact ⟨rfl, B2.out⟩
theorem ownN : ownKnob Tryz.prog.godebug = none := by kernel_rfl
theorem laidOutN : laidOutB Tryz.prog = true := by kernel_rfl
end Go.Proofs.YtafmiolehlagkaaGreat
namespace Go.Proofs.YtafmiolehlagkaaGreat.worldNew
open Go.ChangeShapes Go.WideShapes Go.ChangeAt Go.RowKit
set_option maxRecDepth 100000 in
theorem lifted (os : Os) (started : os.Started) (H : Type) (enc : TypeId × Value → H) :
    ReturnsInHanded {} Tryz.checked os 5 .any (Rows.worldNewSpec.pre6 enc Tryz.prog Tryz.f5 Rows.worldNewRow.domain false) (Rows.worldNewSpec.post enc Tryz.prog Tryz.f5 false true false false) := by
  refine returnsInHanded_of_change_sized (C := Tryz.checked) ownN started (by kernel_rfl) Tryz.func5
    (ChangeSpec.witness6 (enc := enc) (C := Tryz.checked) false ⟨#[], #[.slice none 0 0], []⟩ 8 (by kernel_rfl) (by kernel_rfl) (by kernel_rfl) (by kernel_rfl)) ?_
  intro W base args ds gs before hval0 hW hcnd hsz0 _
  have hval : ∀ (j : Nat) t v, Tryz.f5.params[j]? = some t → args[j]? = some v → Value.okWide Tryz.prog W .any base t v := hval0
  have hW' := hW
  obtain ⟨p, q, hA0, hV, rfl, hfz, hnd⟩ := hW
  have hA : DataW.TrodAll enc Tryz.prog W 0 (fun _ => true) true Tryz.f5.params.toList args.toList ds p := hA0
  rw [Tryz.params5] at hA hval
  obtain ⟨v0, vs0, d0, ds0, p0, q0, hargs, rfl, rfl, h0, r0⟩ := trodAll_cons hA
  obtain ⟨rfl, rfl, rfl⟩ := trodAll_nil r0
  obtain rfl : args = #[v0] := by cases args; simp_all
  obtain ⟨rfl, rfl⟩ := trodVars_none hV
  obtain ⟨a0, len0, cap0, rfl⟩ := okWide_slice Tryz.underlying22 (hval 0 22 v0 rfl rfl)
  have lt0 : ∀ x ∈ p0, x.block < W.heap.size := by obtain ⟨m, hm⟩ := h0; exact DataW.trod_lt m _ _ _ hm
  have hwt : ∀ n ∈ d0.weights Tryz.prog 22, n ≤ reachBytes := fun n hn => by
    have := List.all_eq_true.1 hsz0 n (DataW.weights_mem_each (j := 0) (t := 22) (d := d0) (by rw [Tryz.params5]; rfl) rfl n hn)
    simpa using this
  obtain ⟨ks, hkr, hks⟩ := kinds_arg h0 hwt
  clear hA0 hval0
  refine (new_walk hkr hks).mono fun e W' ⟨he, bel⟩ => ?_
  subst he
  exact ⟨_, rfl, _, _, _, [], _, [], hW', trodAll_mk1 (shut_bool Tryz.underlying4 _), (trodAll_cons_mk (Below.trod laidOutN (by kernel_rfl) (of_decide_eq_true (by kernel_rfl)) h0 bel lt0) trodAll_mk0), rfl, bel.frame _, fun h => by cases h⟩
theorem over : Rows.worldNewRow.holds Tryz.pinned (OpenSpec.ofChange Rows.worldNewSpec) :=
  OpenClaim.holds_of_wide 5 Tryz.f5 rfl rfl rfl rfl rfl rfl rfl ⟨rfl, rfl, rfl, rfl, rfl⟩ rfl rfl rfl rfl rfl (by kernel_rfl) Tryz.func5 (by kernel_rfl)
    (of_decide_eq_true (by kernel_rfl)) (by unfold Func.isWrapper; first | (rw [if_pos (by decide +kernel)]; kernel_rfl) | (rw [if_neg (by decide +kernel)]; exact ⟨rfl, rfl⟩))
    (fun os started H enc _ => lifted os started H enc)
end Go.Proofs.YtafmiolehlagkaaGreat.worldNew
namespace Go.Proofs.YtafmiolehlagkaaGreat
theorem worldNew_holds : Rows.WorldNewSaid := worldNew.over
#print axioms worldNew_holds
end Go.Proofs.YtafmiolehlagkaaGreat
