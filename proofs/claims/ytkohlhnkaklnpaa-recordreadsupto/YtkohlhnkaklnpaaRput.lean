/-
  record.Put: a record behind the bytes.
-/
import Derived.Test.YtkohlhnkaklnpaaPut
import Derived.Test.YtkohlhnkaklnpaaConcat
import Derived.Test.YtkohlhnkaklnpaaSumOf
namespace Go.Proofs.Ytkohlhnkaklnpaa
open Go.RowKit

theorem own_bs {w : World} {B n : Nat} {v : Value} {l : List UInt8} (h : w.ownsRow B 5 1 v n (Lib.byteCells l)) : Bs w v l := by
  have hn : n = l.length := by have := h.1; rw [Lib.byteCells_length] at this; omega
  subst hn
  rcases h.2 with ⟨rfl, h0⟩ | ⟨g, cap, cur, rfl, hb, hg, hnc, hcm, hcs, htake⟩
  · obtain rfl : l = [] := List.eq_nil_of_length_eq_zero h0
    exact Bs.nil w
  · have := Bs.row (w := w) (g := g) (o := 0) (l := l) hnc hcm (fun j hj => by
      rw [Nat.zero_add, h.cellAt j (by omega)]
      simp [Lib.byteCells, hj])
    exact this
theorem own_nilOr {w : World} {B n : Nat} {v : Value} {l : List Value} (h : w.ownsRow B 5 1 v n l) : NilOr v := by
  rcases h.2 with ⟨rfl, _⟩ | ⟨g, cap, cur, rfl, _⟩
  · exact .inl rfl
  · exact .inr ⟨_, _, _, rfl⟩
/-- Bytes that a literal lays. -/
theorem lit_bs {w : World} {g : Nat} {l : List UInt8} (h : Row w g l) (hm : l.length ≤ maxLen) : Bs w (.slice (some ⟨g, 0, none⟩) l.length l.length) l := by
  have := h.bs (n := l.length) (c := l.length) (Nat.le_refl _) (Nat.le_refl _) hm
  rwa [List.take_length] at this
theorem row_lit (w : World) (l : List UInt8) : Row (w.alloc (.cells (Lib.byteCells l).toArray 5)) w.heap.size l := heap_alloc_new w _
theorem below_more {B : Nat} {w0 w w' : World} (h : Below B w0 w) (hB : B ≤ w.heap.size) (hb : Below w.heap.size w w') : Below B w0 w' ∧ B ≤ w'.heap.size :=
  ⟨h.trans (hb.mono hB), Nat.le_trans hB hb.size⟩

theorem own_lower {w : World} {B B' e s n : Nat} {v : Value} {xs : List Value} (h : w.ownsRow B e s v n xs) (hB : B' ≤ B) : w.ownsRow B' e s v n xs := by
  refine ⟨h.1, ?_⟩
  rcases h.2 with h0 | ⟨g, cap, cur, h1, h2, h3⟩
  · exact .inl h0
  · exact .inr ⟨g, cap, cur, h1, Nat.le_trans hB h2, h3⟩
theorem cell_of_alloc (w : World) (C : Array Value) (t : TypeId) (i : Nat) : (w.alloc (.cells C t)).cell? ⟨w.heap.size, i, none⟩ = C[i]? := cell_of_row _ _ _ _ t (0, 0) (heap_alloc_new w _)
theorem own_len {w : World} {B e s n : Nat} {v : Value} {xs : List Value} (h : w.ownsRow B e s v n xs) : ∃ ao c, v = .slice ao n c := by
  rcases h.2 with ⟨rfl, rfl⟩ | ⟨g, cap, cur, rfl, _⟩
  · exact ⟨_, _, rfl⟩
  · exact ⟨_, _, rfl⟩
theorem concat2 (va vb : Value) (a b : List UInt8) (w : World) (ha : Bs w va a) (na : NilOr va) (hb : Bs w vb b) (nb : NilOr vb) (hl : a.length + b.length ≤ 140737488355328) :
    Calls Try.prog 24 #[.slice (some ⟨w.heap.size, 0, none⟩) 2 2] (w.alloc (.cells #[va, vb] 22)) fun e w' => ∃ v', e = .returned v' ∧ w'.ownsRow w.heap.size 5 1 v' (a ++ b).length (Lib.byteCells (a ++ b)) ∧ Below w.heap.size w w' := by
  have hb0 := (Below.refl w.heap.size w).alloc (Nat.le_refl _) (.cells #[va, vb] 22)
  have h := concat_any w.heap.size 2 (fun i => if i = 0 then va else vb) [a, b] (w.alloc (.cells #[va, vb] 22)) (by simp) (by decide) (fun i hi => ?_) (fun i hi => ?_) (by simpa [total] using hl)
  · refine Calls.mono h fun e w' ⟨v', h1, h2, h3⟩ => ⟨v', h1, ?_, hb0.trans (h3.mono (by simp))⟩
    have := own_lower h2 (B' := w.heap.size) (by simp)
    simpa [total] using this
  · rw [cell_of_alloc]
    simp at hi
    rcases (show i = 0 ∨ i = 1 by omega) with rfl | rfl <;> rfl
  · simp at hi
    rcases (show i = 0 ∨ i = 1 by omega) with rfl | rfl
    · exact ⟨ha.below hb0 (Nat.le_refl _), na⟩
    · exact ⟨hb.below hb0 (Nat.le_refl _), nb⟩
theorem concat4 (va vb vc vd : Value) (a b c d : List UInt8) (w : World) (ha : Bs w va a) (na : NilOr va) (hb : Bs w vb b) (nb : NilOr vb) (hc : Bs w vc c) (nc : NilOr vc) (hd : Bs w vd d) (nd : NilOr vd) (hl : a.length + b.length + c.length + d.length ≤ 140737488355328) :
    Calls Try.prog 24 #[.slice (some ⟨w.heap.size, 0, none⟩) 4 4] (w.alloc (.cells #[va, vb, vc, vd] 22)) fun e w' => ∃ v', e = .returned v' ∧ w'.ownsRow w.heap.size 5 1 v' (a ++ (b ++ (c ++ d))).length (Lib.byteCells (a ++ (b ++ (c ++ d)))) ∧ Below w.heap.size w w' := by
  have hb0 := (Below.refl w.heap.size w).alloc (Nat.le_refl _) (.cells #[va, vb, vc, vd] 22)
  have h := concat_any w.heap.size 4 (fun i => if i = 0 then va else if i = 1 then vb else if i = 2 then vc else vd) [a, b, c, d] (w.alloc (.cells #[va, vb, vc, vd] 22)) (by simp) (by decide) (fun i hi => ?_) (fun i hi => ?_) (by simp [total]; omega)
  · refine Calls.mono h fun e w' ⟨v', h1, h2, h3⟩ => ⟨v', h1, ?_, hb0.trans (h3.mono (by simp))⟩
    have := own_lower h2 (B' := w.heap.size) (by simp)
    simpa [total] using this
  · rw [cell_of_alloc]
    simp at hi
    rcases (show i = 0 ∨ i = 1 ∨ i = 2 ∨ i = 3 by omega) with rfl | rfl | rfl | rfl <;> rfl
  · simp at hi
    rcases (show i = 0 ∨ i = 1 ∨ i = 2 ∨ i = 3 by omega) with rfl | rfl | rfl | rfl
    · exact ⟨ha.below hb0 (Nat.le_refl _), na⟩
    · exact ⟨hb.below hb0 (Nat.le_refl _), nb⟩
    · exact ⟨hc.below hb0 (Nat.le_refl _), nc⟩
    · exact ⟨hd.below hb0 (Nat.le_refl _), nd⟩

set_option maxHeartbeats 4000000 in
set_option maxRecDepth 100000 in
theorem rput_bad (vb vd : Value) (d : List UInt8) (w : World) (hd : Bs w vd d) (hf : ¬ Rc.fits d) :
    Calls Try.prog 10 #[vb, vd] w fun e w' => e = .returned (.tuple #[.slice none 0 0, .int .i64 1]) ∧ w' = w := by
  obtain ⟨ao, c, rfl, h1, h2, h3⟩ := hd
  clear h3
  unfold maxLen at h2
  by_cases h0 : d.length = 0
  · have z : ((d.length : Int) == 0) = true := by simp [h0]
    have H0 := hide h0
    clear h0
    go_enter Try.func10, Try.ntmps10
    go_wp2
    go_ret2
    exact ⟨rfl, rfl⟩
  · have z : ((d.length : Int) == 0) = false := by rw [beq_eq_false_iff_ne]; omega
    have hl : (d.length : Int) > 100000 := by
      have : ¬ d.length ≤ 100000 := fun h => hf ⟨fun e => h0 (by simp [e]), h⟩
      omega
    go_enter Try.func10, Try.ntmps10
    go_wp2
    go_ret2
    exact ⟨rfl, rfl⟩

set_option maxHeartbeats 4000000 in
set_option maxRecDepth 100000 in
theorem rput_good (vb vd : Value) (b d : List UInt8) (w : World) (hb : Bs w vb b) (hnb : NilOr vb) (hd : Bs w vd d) (hnd : NilOr vd) (hf : Rc.fits d) (hl : b.length ≤ 140737488000000) :
    Calls Try.prog 10 #[vb, vd] w fun e w' => ∃ v', e = .returned (.tuple #[v', .int .i64 0]) ∧ w'.ownsRow w.heap.size 5 1 v' (b ++ Rc.made d).length (Lib.byteCells (b ++ Rc.made d)) ∧ Below w.heap.size w w' := by
  obtain ⟨aob, cb, rfl, _, _, _⟩ := id hb
  obtain ⟨ao, c, rfl, h1, h2, h3⟩ := id hd
  clear h3
  unfold maxLen at h2
  have hd0 : d.length ≠ 0 := fun e => hf.1 (List.eq_nil_of_length_eq_zero e)
  have hd1 := hf.2
  have z : ((d.length : Int) == 0) = false := by rw [beq_eq_false_iff_ne]; omega
  have hle : ¬ (d.length : Int) > 100000 := by omega
  have b1 := lit_bs (row_lit w [130]) (by decide)
  have hp := put_any _ _ d.length _ b1 (by omega) (by simp)
  have HP := hide hp
  have HD := hide hd
  have HBB := hide hb
  clear hp hd hb b1
  go_enter Try.func10, Try.ntmps10
  go_wp2_with fail
  refine HP.out.mono ?_
  rintro e w1 ⟨v1, rfl, ho1, hb1⟩
  have hlen := Lib.uvarint_length64 (x := d.length) (by omega)
  rw [show ([130] : List UInt8).length = 1 from rfl] at ho1
  obtain ⟨ao1, k1, rfl⟩ := own_len ho1
  have hbW1 : Below w.heap.size w w1 := ((Below.refl _ w).alloc (Nat.le_refl _) _).trans (hb1.mono (by simp))
  have hn1 := own_nilOr ho1
  have hv1 := own_bs ho1
  have e1 : [130] ++ Lib.uvarint d.length = Rc.head d.length := rfl
  rw [e1] at hv1
  have hd1' := HD.out.below hbW1 (Nat.le_refl _)
  have hhl := Rc.head_length d.length
  have c2 := concat2 _ _ (Rc.head d.length) d w1 hv1 hn1 hd1' hnd (by omega)
  have C2 := hide c2
  have HV1 := hide hv1
  have HB1 := hide hbW1
  clear c2 hv1 hbW1 hd1' ho1 hb1 HP e1
  go_wp2_with fail
  refine C2.out.mono ?_
  rintro e w2 ⟨v2, rfl, ho2, hb2⟩
  have hs := sumOf_any v2 _ w2 (own_bs ho2)
  have HS := hide hs
  have HB2 := hide hb2
  clear hs ho2 hb2 C2
  go_wp2_with fail
  refine HS.out.mono ?_
  rintro e w3 ⟨rfl, hb3⟩
  have HB3 := hide hb3
  clear hb3 HS
  obtain ⟨x0, x1, x2, x3, e4⟩ : ∃ x0 x1 x2 x3 : UInt8, Rc.sum4 (Rc.head d.length ++ d) = [x0, x1, x2, x3] := ⟨_, _, _, _, rfl⟩
  have E4 := hide e4
  rw [e4]
  clear e4
  simp only [Lib.byteCells, List.map_cons, List.map_nil]
  go_wp2_with fail
  have hr3 := heap_alloc_new w3 (.cells #[.int .u8 x0.toNat, .int .u8 x1.toNat, .int .u8 x2.toNat, .int .u8 x3.toNat] 49)
  have hb4 := (Below.refl w3.heap.size w3).alloc (Nat.le_refl _) (.cells #[.int .u8 x0.toNat, .int .u8 x1.toNat, .int .u8 x2.toNat, .int .u8 x3.toNat] 49)
  have hs4 : (w3.alloc (.cells #[.int .u8 x0.toNat, .int .u8 x1.toNat, .int .u8 x2.toNat, .int .u8 x3.toNat] 49)).heap.size = w3.heap.size + 1 := by simp
  have hs3 := HB3.out.size
  have hs2 := HB2.out.size
  have hs1 := HB1.out.size
  generalize w3.alloc (.cells #[.int .u8 x0.toNat, .int .u8 x1.toNat, .int .u8 x2.toNat, .int .u8 x3.toNat] 49) = w4 at *
  have hbx : Bs w4 (.slice (some ⟨w3.heap.size, 0, none⟩) 4 4) [x0, x1, x2, x3] := Bs.row (l := [x0, x1, x2, x3]) (Nat.le_refl _) (by decide) (fun j hj => by
    rw [Nat.zero_add, cell_of_row w4 _ j _ 49 (0, 0) hr3]
    simp at hj
    rcases (show j = 0 ∨ j = 1 ∨ j = 2 ∨ j = 3 by omega) with rfl | rfl | rfl | rfl <;> rfl)
  have hw14 : Below w1.heap.size w1 w4 := (HB2.out.trans (HB3.out.mono hs2)).trans (hb4.mono (by omega))
  have hw04 : Below w.heap.size w w4 := HB1.out.trans (hw14.mono hs1)
  have c4 := concat4 _ _ _ _ b (Rc.head d.length) [x0, x1, x2, x3] d w4 (HBB.out.below hw04 (Nat.le_refl _)) hnb (HV1.out.below hw14 (Nat.le_refl _)) hn1 hbx (.inr ⟨_, _, _, rfl⟩) (HD.out.below hw04 (Nat.le_refl _)) hnd (by simp; omega)
  rw [show (⟨w4.heap.size, 0, none⟩ : Addr) = ⟨w3.heap.size + 1, 0, none⟩ by rw [hs4]] at c4
  refine c4.mono ?_
  rintro e w5 ⟨v5, rfl, ho5, hb5⟩
  have HO := hide ho5
  have H04 := hide hw04
  have H5 := hide hb5
  clear ho5 hw04 hb5 c4 hw14 hbx hb4 hr3 hs4
  go_wp2
  go_ret2
  refine ⟨_, rfl, ?_, H04.out.trans (H5.out.mono H04.out.size)⟩
  have := own_lower HO.out (B' := w.heap.size) H04.out.size
  unfold Rc.made
  rw [E4.out]
  exact this

theorem rput_rec (vb vd : Value) (b d : List UInt8) (w : World) (hb : Bs w vb b) (hnb : NilOr vb) (hd : Bs w vd d) (hnd : NilOr vd) (hl : b.length ≤ 140737488000000) :
    Calls Try.prog 10 #[vb, vd] w fun e w' => ∃ v', e = .returned (.tuple #[v', .int .i64 (if d ≠ [] ∧ d.length ≤ 100000 then 0 else 1)]) ∧
      w'.ownsRow w.heap.size 5 1 v' (if d ≠ [] ∧ d.length ≤ 100000 then b ++ Rc.made d else []).length (Lib.byteCells (if d ≠ [] ∧ d.length ≤ 100000 then b ++ Rc.made d else [])) ∧ Below w.heap.size w w' := by
  by_cases hf : d ≠ [] ∧ d.length ≤ 100000
  · simp only [if_pos hf]
    exact rput_good vb vd b d w hb hnb hd hnd hf hl
  · simp only [if_neg hf]
    exact (rput_bad vb vd d w hd hf).mono fun e w' ⟨he, hw⟩ => ⟨_, he, World.ownsRow_nil _ _ _ _, hw ▸ Below.refl _ _⟩
end Go.Proofs.Ytkohlhnkaklnpaa
