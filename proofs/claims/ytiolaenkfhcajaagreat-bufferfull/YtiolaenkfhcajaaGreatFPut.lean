/-
  Buffer, full: Put when it is full; who puts.
-/
import Derived.Test.YtiolaenkfhcajaaGreatBShw
namespace Go.Proofs.YtiolaenkfhcajaaGreat
open Go.RowKit
set_option maxRecDepth 100000
set_option maxHeartbeats 4000000 in
theorem bput_full {w : World} {S U : Nat → Prop} {gb gm n : Nat} {f : Int × Int → Option Value} {L : Int × Int → List Cm} (h : Bg w S U gb gm n f L 100000) (x y g1 op ix gn kd : Int) :
    Calls Tryz.prog 9 #[.pointer (some ⟨gb, 0, none⟩), .int .i64 x, .agg #[.int .i64 y, .int .i64 g1], .agg #[.int .i64 op, .int .i64 ix, .int .i64 gn, .int .i64 kd, .slice none 0 0, .slice none 0 0]] w fun e w' => e = .returned (.int .i64 40) ∧ Below w.heap.size w w' := by
  obtain ⟨w1, hw1⟩ : ∃ X, X = (w.alloc (.cells #[.int .i64 y, .int .i64 g1] 36)).alloc (.cells #[.int .i64 op, .int .i64 ix, .int .i64 gn, .int .i64 kd, .slice none 0 0, .slice none 0 0] 40) := ⟨_, rfl⟩
  have b1 : Below w.heap.size w w1 := by rw [hw1]; exact below_on (below_alloc w _) (below_alloc _ _)
  have B1 := hide b1
  have hgb := h.bs gb h.sb
  have g0 : w1.cell? ⟨gb, 1, none⟩ = some (.int .i64 100000) := (Mv.of_below b1 (fun _ => False)).cell (by rw [cell_of_row w _ _ _ 54 (0, 0) h.row]; rfl) id
  clear h b1
  go_enter Tryz.func9, Tryz.ntmps9
  go_upto_region 1 with fail
  rw [← hw1]
  clear hw1
  go_wp2_with fail
  go_ret
  exact ⟨rfl, B1.out⟩
/-- Whom the number n is put for. -/
def atN (l : List Int) (n : Nat) : Int := l.getD (n % l.length) 0
def Wz (w : World) (a : Option Addr) (zs : List Int) : Prop :=
  ∀ j (hj : j < zs.length), (-9223372036854775808 ≤ zs[j] ∧ zs[j] ≤ 9223372036854775807) ∧ ∃ g o, a = some ⟨g, o, none⟩ ∧ g < w.heap.size ∧ w.cell? ⟨g, o + j, none⟩ = some (.int .i64 zs[j])
theorem Wz.at {w V : World} {a : Option Addr} {zs : List Int} (h : Wz w a zs) (hp : 0 < zs.length) (hV : Mv w V (fun k => w.heap.size ≤ k)) (n : Nat) : ∃ g o, a = some ⟨g, o, none⟩ ∧ V.cell? ⟨g, o + n % zs.length, none⟩ = some (.int .i64 (atN zs n)) := by
  have hm : n % zs.length < zs.length := Nat.mod_lt _ hp
  obtain ⟨-, g, o, e, hg, hc⟩ := h _ hm
  refine ⟨g, o, e, ?_⟩
  have e2 : atN zs n = zs[n % zs.length] := by
    unfold atN
    rw [List.getD_eq_getElem?_getD, List.getElem?_eq_getElem hm]
    rfl
  rw [e2]
  exact hV.cell hc (by show ¬ w.heap.size ≤ g; omega)
theorem atN_in {w : World} {a : Option Addr} {zs : List Int} (h : Wz w a zs) (n : Nat) : -9223372036854775808 ≤ atN zs n ∧ atN zs n ≤ 9223372036854775807 := by
  by_cases hp : 0 < zs.length
  · have hm : n % zs.length < zs.length := Nat.mod_lt _ hp
    have e2 : atN zs n = zs[n % zs.length] := by
      unfold atN
      rw [List.getD_eq_getElem?_getD, List.getElem?_eq_getElem hm]
      rfl
    rw [e2]
    exact (h _ hm).1
  · have e : zs = [] := List.eq_nil_of_length_eq_zero (by omega)
    subst e
    show -9223372036854775808 ≤ (0 : Int) ∧ (0 : Int) ≤ 9223372036854775807; omega
set_option maxHeartbeats 4000000 in
theorem who_any {w V : World} {az ai : Option Addr} {ns cs ni ci : Nat} {ss is : List Int} (hs : Wz w az ss) (hns : ss.length = ns) (hi : Wz w ai is) (hni : is.length = ni) (hV : Mv w V (fun k => w.heap.size ≤ k)) (n : Nat) :
    Calls Tryz.prog 8 #[.slice az ns cs, .slice ai ni ci, .int .i64 (n : Int)] V fun e w' => e = .returned (.tuple #[.int .i64 (atN ss n), .int .i64 (atN is n)]) ∧ w' = V := by
  subst hns hni
  have e1 : ¬ 0 < ss.length → atN ss n = 0 := fun h => by
    obtain rfl : ss = [] := List.eq_nil_of_length_eq_zero (by omega)
    rfl
  have e2 : ¬ 0 < is.length → atN is n = 0 := fun h => by
    obtain rfl : is = [] := List.eq_nil_of_length_eq_zero (by omega)
    rfl
  obtain ⟨x, hx⟩ : ∃ x, x = atN ss n := ⟨_, rfl⟩
  obtain ⟨y, hy⟩ : ∃ y, y = atN is n := ⟨_, rfl⟩
  rw [← hx] at e1
  rw [← hy] at e2
  have HX := hide hx
  have HY := hide hy
  rw [← hx, ← hy]
  by_cases h1 : 0 < ss.length
  · obtain ⟨g, o, rfl, c1⟩ := hs.at h1 hV n
    have t1 : (0 : Int) < (ss.length : Int) := by omega
    have t2 : (n : Int).tmod (ss.length : Int) = ((n % ss.length : Nat) : Int) := by rfl
    have t3 : n % ss.length < ss.length := Nat.mod_lt _ h1
    have t4 : ¬ (ss.length : Int) = 0 := by omega
    rw [← hx] at c1
    by_cases h2 : 0 < is.length
    · obtain ⟨g', o', rfl, c2⟩ := hi.at h2 hV n
      have t5 : (0 : Int) < (is.length : Int) := by omega
      have t6 : (n : Int).tmod (is.length : Int) = ((n % is.length : Nat) : Int) := by rfl
      have t7 : n % is.length < is.length := Nat.mod_lt _ h2
      have t8 : ¬ (is.length : Int) = 0 := by omega
      rw [← hy] at c2
      clear hx hy HX HY e1 e2 hs hi hV
      generalize n % ss.length = k at *
      generalize n % is.length = k' at *
      generalize ss.length = ls at *
      generalize is.length = li at *
      go_enter Tryz.func8, Tryz.ntmps8
      go_wp2_with fail
      go_ret2
      exact ⟨rfl, rfl⟩
    · have t5 : ¬ (0 : Int) < (is.length : Int) := by omega
      obtain rfl : y = 0 := e2 h2
      clear hx hy HX HY e1 e2 hs hi hV h2
      generalize n % ss.length = k at *
      generalize ss.length = ls at *
      generalize is.length = li at *
      go_enter Tryz.func8, Tryz.ntmps8
      go_wp2_with fail
      go_ret2
      exact ⟨rfl, rfl⟩
  · have t1 : ¬ (0 : Int) < (ss.length : Int) := by omega
    obtain rfl : x = 0 := e1 h1
    by_cases h2 : 0 < is.length
    · obtain ⟨g', o', rfl, c2⟩ := hi.at h2 hV n
      have t5 : (0 : Int) < (is.length : Int) := by omega
      have t6 : (n : Int).tmod (is.length : Int) = ((n % is.length : Nat) : Int) := by rfl
      have t7 : n % is.length < is.length := Nat.mod_lt _ h2
      have t8 : ¬ (is.length : Int) = 0 := by omega
      rw [← hy] at c2
      clear hx hy HX HY e1 e2 hs hi hV h1
      generalize n % is.length = k' at *
      generalize ss.length = ls at *
      generalize is.length = li at *
      go_enter Tryz.func8, Tryz.ntmps8
      go_wp2_with fail
      go_ret2
      exact ⟨rfl, rfl⟩
    · have t5 : ¬ (0 : Int) < (is.length : Int) := by omega
      obtain rfl : y = 0 := e2 h2
      clear hx hy HX HY e1 e2 hs hi hV h1 h2
      generalize ss.length = ls at *
      generalize is.length = li at *
      go_enter Tryz.func8, Tryz.ntmps8
      go_wp2_with fail
      go_ret2
      exact ⟨rfl, rfl⟩
end Go.Proofs.YtiolaenkfhcajaaGreat
