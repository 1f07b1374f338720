/-
  The document's shortest (function 42): the form that a row has.
-/
import Derived.Test.YtoccbeefmagklaaRefForms
namespace Go.Proofs.Ytoccbeefmagklaa
open Go.RowKit

/-- The best of the first so many forms. -/
def bestTo (zs : List Int) : Nat → Nat
  | 0 => 0
  | 1 => 0
  | 2 => if (Rw.formB zs 1).length < (Rw.formB zs 0).length then 1 else 0
  | _ => Rw.best zs
def tagged (zs : List Int) (k : Nat) : List UInt8 := UInt8.ofNat k :: Rw.formB zs k
theorem tagged_length (zs : List Int) (k : Nat) : (tagged zs k).length = (Rw.formB zs k).length + 1 := rfl
theorem bestTo_one {zs : List Int} : bestTo zs 2 = if (tagged zs 1).length < (tagged zs (bestTo zs 1)).length then 1 else bestTo zs 1 := by
  simp only [tagged_length, bestTo]
  split <;> split <;> omega
theorem bestTo_two {zs : List Int} : bestTo zs 3 = if (tagged zs 2).length < (tagged zs (bestTo zs 2)).length then 2 else bestTo zs 2 := by
  simp only [tagged_length, bestTo, Rw.best]
  by_cases h : (Rw.formB zs 1).length < (Rw.formB zs 0).length
  · simp only [if_pos h]
    split <;> split <;> omega
  · simp only [if_neg h]
    split <;> split <;> omega

set_option maxHeartbeats 4000000 in
set_option maxRecDepth 100000 in
theorem rshort_any (vl : Value) (zs : List Int) (w : World) (hl : Ns w vl zs) (hz : Rw.AllFit zs) (hzl : zs.length ≤ 1048576) :
    Calls Try.prog 42 #[vl] w fun e w' => ∃ v, e = .returned v ∧ (Bs w' v (tagged zs (Rw.best zs)) ∧ NilOr v) ∧ Below w.heap.size w w' := by
  have F := hide (forms_any vl zs w hl hz hzl)
  clear hl hz
  go_enter Try.func42, Try.ntmps42
  go_wp2_with fail
  refine F.out.mono ?_
  rintro e w1 ⟨v0, v1, v2, rfl, A0, A1, A2, b⟩
  clear F
  have hB := hide b
  have X : ∀ (o : Obj) (v : Value) (l : List UInt8), Bs w1 v l ∧ NilOr v → Bs (w1.alloc o) v l ∧ NilOr v := fun o v l h => bsn_below h ((Below.refl _ _).alloc (Nat.le_refl _) _)
  have C0 := hide (X (.cells #[v0, v1, v2] 72) _ _ A0)
  have C1 := hide (X (.cells #[v0, v1, v2] 72) _ _ A1)
  have C2 := hide (X (.cells #[v0, v1, v2] 72) _ _ A2)
  have hBB := hide (hB.out.alloc (hB.out.size) (.cells #[v0, v1, v2] 72))
  obtain ⟨ao0, c0, rfl, x1, x2, x3⟩ := A0.1
  obtain ⟨ao1, c1, rfl, y1, y2, y3⟩ := A1.1
  obtain ⟨ao2, c2, rfl, z1, z2, z3⟩ := A2.1
  clear x1 x2 x3 y1 y2 y3 z1 z2 z3 A0 A1 A2 b X hB
  rw [List.length_cons, List.length_cons, List.length_cons] at C0 C1 C2 hBB
  go_wp2
  generalize hW : (w1.alloc (Obj.cells #[Value.slice ao0 ((Rw.formB zs 0).length + 1) c0, Value.slice ao1 ((Rw.formB zs 1).length + 1) c1, Value.slice ao2 ((Rw.formB zs 2).length + 1) c2] 72)) = W at *
  have hc0 : W.cell? ⟨w1.heap.size, 0, none⟩ = some (Value.slice ao0 ((Rw.formB zs 0).length + 1) c0) := by rw [← hW]; simp
  have hc1 : W.cell? ⟨w1.heap.size, 1, none⟩ = some (Value.slice ao1 ((Rw.formB zs 1).length + 1) c1) := by rw [← hW]; simp
  have hc2 : W.cell? ⟨w1.heap.size, 2, none⟩ = some (Value.slice ao2 ((Rw.formB zs 2).length + 1) c2) := by rw [← hW]; simp
  have B0 : Hid (Bs W (Value.slice ao0 ((Rw.formB zs 0).length + 1) c0) (tagged zs 0) ∧ NilOr (Value.slice ao0 ((Rw.formB zs 0).length + 1) c0)) := C0
  have B1 : Hid (Bs W (Value.slice ao1 ((Rw.formB zs 1).length + 1) c1) (tagged zs 1) ∧ NilOr (Value.slice ao1 ((Rw.formB zs 1).length + 1) c1)) := C1
  have B2 : Hid (Bs W (Value.slice ao2 ((Rw.formB zs 2).length + 1) c2) (tagged zs 2) ∧ NilOr (Value.slice ao2 ((Rw.formB zs 2).length + 1) c2)) := C2
  clear hW C0 C1 C2
  go_loopw [4, 5] (fun v4 v5 wr => ∃ i : Nat, 1 ≤ i ∧ i ≤ 3 ∧ v5 = .int .i64 i ∧ wr = W ∧ Hid (Bs W v4 (tagged zs (bestTo zs i)) ∧ NilOr v4)) (fun _ v5 _ => 3 - (intOf v5).toNat)
  case atStart => exact ⟨1, by omega, by omega, rfl, rfl, B0.out⟩
  case round =>
    obtain ⟨i, h1, h3, rfl, rfl, HV⟩ := hrel
    rcases (show i = 1 ∨ i = 2 ∨ i = 3 by omega) with rfl | rfl | rfl
    · have D := hide (fun (h : (tagged zs 1).length < (tagged zs (bestTo zs 1)).length) => (bestTo_one (zs := zs)).trans (if_pos h))
      have D' := hide (fun (h : ¬ (tagged zs 1).length < (tagged zs (bestTo zs 1)).length) => (bestTo_one (zs := zs)).trans (if_neg h))
      generalize bestTo zs 1 = k at *
      obtain ⟨ao4, c4, hv4, h4a, h4b, h4c⟩ := HV.out.1
      clear h4a h4b h4c
      rw [tagged_length] at hv4
      subst hv4
      by_cases hlt : (Rw.formB zs 1).length < (Rw.formB zs k).length
      · have hlt' : ((Rw.formB zs 1).length : Int) + 1 < ((Rw.formB zs k).length : Int) + 1 := by omega
        have E := hide (D.out (by rw [tagged_length, tagged_length]; omega))
        clear D D' hlt
        go_wp2
        go_roundw
        case rel => exact ⟨1 + 1, by omega, by omega, rfl, trivial, by rw [E.out]; exact B1.out⟩
        case measure => simp [intOf]
      · have hlt' : ¬ ((Rw.formB zs 1).length : Int) + 1 < ((Rw.formB zs k).length : Int) + 1 := by omega
        have E := hide (D'.out (by rw [tagged_length, tagged_length]; omega))
        clear D D' hlt
        go_wp2
        go_roundw
        case rel => exact ⟨1 + 1, by omega, by omega, rfl, trivial, by rw [E.out]; exact HV.out⟩
        case measure => simp [intOf]
    · have D := hide (fun (h : (tagged zs 2).length < (tagged zs (bestTo zs 2)).length) => (bestTo_two (zs := zs)).trans (if_pos h))
      have D' := hide (fun (h : ¬ (tagged zs 2).length < (tagged zs (bestTo zs 2)).length) => (bestTo_two (zs := zs)).trans (if_neg h))
      generalize bestTo zs 2 = k at *
      obtain ⟨ao4, c4, hv4, h4a, h4b, h4c⟩ := HV.out.1
      clear h4a h4b h4c
      rw [tagged_length] at hv4
      subst hv4
      by_cases hlt : (Rw.formB zs 2).length < (Rw.formB zs k).length
      · have hlt' : ((Rw.formB zs 2).length : Int) + 1 < ((Rw.formB zs k).length : Int) + 1 := by omega
        have E := hide (D.out (by rw [tagged_length, tagged_length]; omega))
        clear D D' hlt
        go_wp2
        go_roundw
        case rel => exact ⟨2 + 1, by omega, by omega, rfl, trivial, by rw [E.out]; exact B2.out⟩
        case measure => simp [intOf]
      · have hlt' : ¬ ((Rw.formB zs 2).length : Int) + 1 < ((Rw.formB zs k).length : Int) + 1 := by omega
        have E := hide (D'.out (by rw [tagged_length, tagged_length]; omega))
        clear D D' hlt
        go_wp2
        go_roundw
        case rel => exact ⟨2 + 1, by omega, by omega, rfl, trivial, by rw [E.out]; exact HV.out⟩
        case measure => simp [intOf]
    · go_wp2
      go_ret
      exact ⟨_, rfl, HV.out, hBB.out⟩
end Go.Proofs.Ytoccbeefmagklaa
