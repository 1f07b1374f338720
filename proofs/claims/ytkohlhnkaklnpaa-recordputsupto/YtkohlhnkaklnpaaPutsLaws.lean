/-
  What RecordPuts' walk shares: Put's answer in one line, rows that stay.
-/
import Derived.Test.YtkohlhnkaklnpaaStage
import Derived.Test.YtkohlhnkaklnpaaStill
import Derived.Test.YtkohlhnkaklnpaaRefMade
import Derived.Test.YtkohlhnkaklnpaaConv
namespace Go.Proofs.Ytkohlhnkaklnpaa
open Go.RowKit
/-- Put's error, and what it gives. -/
def Er (d : List UInt8) : Int := if d ≠ [] ∧ d.length ≤ 100000 then 0 else 1
def Re (b d : List UInt8) : List UInt8 := if d ≠ [] ∧ d.length ≤ 100000 then b ++ Rc.made d else []
theorem Re_length (b d : List UInt8) : (Re b d).length ≤ b.length + 200000 := by
  unfold Re
  split
  · rename_i h
    have h2 := Lib.uvarint_length64 (x := d.length) (by omega)
    rw [List.length_append, Rc.made_length]
    omega
  · simp
/-- A row that was made between two sizes of the heap. -/
def Rs (w : World) (lo hi : Nat) (v : Value) (l : List UInt8) : Prop := w.ownsRow lo 5 1 v l.length (Lib.byteCells l) ∧ ∀ g, v.ownBlock = some g → lo ≤ g ∧ g < hi
theorem Rs.of {w0 w : World} {v : Value} {l : List UInt8} (h : w.ownsRow w0.heap.size 5 1 v l.length (Lib.byteCells l)) : Rs w w0.heap.size w.heap.size v l := ⟨h, fun g hg => h.lt g hg⟩
theorem Rs.later {w w' : World} {lo hi : Nat} {v : Value} {l : List UInt8} (h : Rs w lo hi v l) (hb : Below w.heap.size w w') : Rs w' lo hi v l := ⟨h.1.kept (grown_later hb) (by cases v.ownBlock <;> simp), h.2⟩
theorem Rs.turned {w w' : World} {lo hi g : Nat} {v : Value} {l : List UInt8} (h : Rs w lo hi v l) (hb : w.grownBy w' (some g)) (hg : g < lo) : Rs w' lo hi v l :=
  ⟨h.1.kept hb (.inr (fun e => by have := (h.2 g e).1; omega)), h.2⟩
theorem Rs.ap {w w2 : World} {lo hi lo2 hi2 : Nat} {v u : Value} {l k : List UInt8} (h : Rs w lo hi v l) (h2 : Rs w2 lo2 hi2 u k) (hh : hi ≤ lo2) : Ap v u := ap_less hi (fun g hg => (h.2 g hg).2) (fun g hg => Nat.le_trans hh (h2.2 g hg).1)
theorem put_rec (vb vd : Value) (b d : List UInt8) (w : World) (hb : Bs w vb b) (hnb : NilOr vb) (hd : Bs w vd d) (hnd : NilOr vd) (hl : b.length ≤ 140737488000000) :
    Calls Try.prog 10 #[vb, vd] w fun e w' => ∃ ao c, e = .returned (.tuple #[.slice ao (Re b d).length c, .int .i64 (Er d)]) ∧ Rs w' w.heap.size w'.heap.size (.slice ao (Re b d).length c) (Re b d) ∧ Below w.heap.size w w' := by
  refine (rput_rec vb vd b d w hb hnb hd hnd hl).mono ?_
  rintro e w' ⟨v', he, ho, hbe⟩
  obtain ⟨ao, c, rfl⟩ := own_len ho
  exact ⟨ao, c, he, Rs.of ho, hbe⟩
theorem refput_rec (vb vd : Value) (b d : List UInt8) (w : World) (hb : Bs w vb b) (hnb : NilOr vb) (hd : Bs w vd d) (hnd : NilOr vd) (hl : b.length ≤ 140737488000000) :
    Calls Try.prog 11 #[vb, vd] w fun e w' => ∃ ao c, e = .returned (.tuple #[.slice ao (Re b d).length c, .int .i64 (Er d)]) ∧ Rs w' w.heap.size w'.heap.size (.slice ao (Re b d).length c) (Re b d) ∧ Below w.heap.size w w' := by
  by_cases hf : d ≠ [] ∧ d.length ≤ 100000
  · unfold Re Er
    simp only [if_pos hf]
    refine (rrput_good vb vd b d w hb hnb hd hnd hf hl).mono ?_
    rintro e w' ⟨v', he, ho, hbe⟩
    obtain ⟨ao, c, rfl⟩ := own_len ho
    exact ⟨ao, c, he, Rs.of ho, hbe⟩
  · unfold Re Er
    simp only [if_neg hf]
    refine (rrput_bad vb vd d w hd hf).mono ?_
    rintro e w' ⟨he, rfl⟩
    exact ⟨none, 0, he, ⟨World.ownsRow_nil _ _ _ _, fun g hg => by simp [Value.ownBlock] at hg⟩, Below.refl _ _⟩
theorem lent_bs {w : World} {g n : Nat} {l : List UInt8} (h : Row w g (l ++ List.replicate 8 201)) (hn : n = l.length) (hm : l.length + 8 ≤ maxLen) : Bs w (.slice (some ⟨g, 0, none⟩) n (n + 8)) l := by
  subst hn
  have := h.bs (n := l.length) (c := l.length + 8) (by simp) (by omega) hm
  rwa [List.take_left] at this
theorem sev_bs {w : World} {g n : Nat} (h : Row w g (List.replicate (n + 8) 77)) (hm : n + 8 ≤ maxLen) : Bs w (.slice (some ⟨g, 0, none⟩) n (n + 8)) (List.replicate n 77) := by
  have := h.bs (n := n) (c := n + 8) (by simp) (by omega) hm
  rwa [List.take_replicate, Nat.min_eq_left (by omega)] at this
theorem row_later {w w' : World} {g : Nat} {l : List UInt8} (h : Row w g l) (hb : Below w.heap.size w w') : Row w' g l := (hb.block g h.lt).trans h
theorem row_turned {w w' : World} {g g' : Nat} {l : List UInt8} (h : Row w g l) (hb : w.grownBy w' (some g')) (hne : g ≠ g') : Row w' g l := (hb.block g h.lt (fun e => hne (Option.some.inj e))).trans h
theorem bs_turned {w w' : World} {g' : Nat} {v : Value} {l : List UInt8} (h : Bs w v l) (hb : w.grownBy w' (some g')) (hne : 0 < l.length → ∀ g, v.ownBlock = some g → g ≠ g') : Bs w' v l := by
  obtain ⟨ao, c, rfl, h1, h2, h3⟩ := h
  refine ⟨ao, c, rfl, h1, h2, fun j hj => ?_⟩
  obtain ⟨g, o, rfl, hc⟩ := h3 j hj
  exact ⟨g, o, rfl, hb.cell hc (fun e => hne (by omega) g rfl (Option.some.inj e))⟩
end Go.Proofs.Ytkohlhnkaklnpaa
