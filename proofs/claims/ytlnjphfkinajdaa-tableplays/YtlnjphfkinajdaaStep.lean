/-
  The law's step, whatever its kind; and what came in.
-/
import Derived.Test.YtlnjphfkinajdaaSp2
import Derived.Test.YtlnjphfkinajdaaSp3
import Derived.Test.YtlnjphfkinajdaaSp4
import Derived.Test.YtlnjphfkinajdaaSp5
import Derived.Test.YtlnjphfkinajdaaSp9
import Derived.Test.YtlnjphfkinajdaaSpX
namespace Go.Proofs.Ytlnjphfkinajdaa
open Go.RowKit
def I64 (x : Int) : Prop := -9223372036854775808 ≤ x ∧ x ≤ 9223372036854775807
theorem step_any {w : World} {gw n M B : Nat} {G : Nat → Nat × Nat} {C : Nat → Ts} {L : List Held} (h : Bu w gw B M G n C C L) (kd on row col e1 e2 x : Int) (av : Option Addr) (nv cv : Nat) (hn1 : 1 ≤ n) (hn : n ≤ 1000) (hM : M ≤ 900000) (hL : L.length ≤ 800000) (ho : I64 on) (hE : InB (e1, e2)) (hrow : I64 row)
    (vals : List Int) (hv : Fz w (.slice av nv cv) vals) (hv0 : 0 < vals.length → ∀ k, (Value.slice av nv cv).ownBlock = some k → k < B) (hvl : vals.length ≤ 17592186044416) :
    Calls Try.prog 7 #[.pointer (some ⟨gw, 0, none⟩), .agg #[.int .i64 kd, .int .i64 on, .int .i64 row, .int .i64 col, .int .i64 e1, .int .i64 e2, .int .i64 x, .slice av nv cv]] w fun e w' => e = .returned (.bool true) ∧ Gs w gw B (M + 700) (n + 1) (L.length + 4) w' := by
  obtain ⟨own, hF, hb⟩ := h
  by_cases h1 : kd = 1
  · subst h1; exact step_1 hb hF on row col e1 e2 x av nv cv hn hM (.inl hn1)
  by_cases h2 : kd = 2
  · subst h2; exact step_2 hb hF on row col e1 e2 x av nv cv hn1 hn hM hL ho hE vals hv (fun h0 k e => hF.2 k (hv0 h0 k e)) hvl
  by_cases h3 : kd = 3
  · subst h3; exact step_3 hb hF on row col e1 e2 x av nv cv hn1 hn hM hL ho hE
  by_cases h4 : kd = 4
  · subst h4; exact step_4 hb hF on row col e1 e2 x av nv cv hn1 hn hM hL ho hE
  by_cases h5 : kd = 5
  · subst h5; exact step_5 hb hF on row col e1 e2 x av nv cv hn1 hn hM hL ho hE
  by_cases h6 : kd = 6
  · subst h6; exact step_6 hb hF on row col e1 e2 x av nv cv hn1 hn hM hL ho hE
  by_cases h7 : kd = 7
  · subst h7; exact step_7 hb hF on row col e1 e2 x av nv cv hn1 hn hM hL ho hE
  by_cases h8 : kd = 8
  · subst h8; exact step_8 hb hF on row col e1 e2 x av nv cv hn1 hn hM hL ho hE
  by_cases h9 : kd = 9
  · subst h9; exact step_9 hb hF on row col e1 e2 x av nv cv hn1 hn hM hL ho hE
  by_cases h10 : kd = 10
  · subst h10; exact step_10 hb hF on row col e1 e2 x av nv cv hn1 hn hM hL ho hE hrow
  exact step_other hb hF kd on row col e1 e2 x av nv cv hn1 hn hM hL ho hE ⟨h1, h2, h3, h4, h5, h6, h7, h8, h9, h10⟩
/-- A script's step, as it lies. -/
def Op1 (w : World) (g o : Nat) : Prop := ∃ (kd on row col e1 e2 x : Int) (av : Option Addr) (nv cv : Nat) (vals : List Int), (w.cell? ⟨g, o, none⟩ = some (.int .i64 kd) ∧ w.cell? ⟨g, o + 1, none⟩ = some (.int .i64 on) ∧ w.cell? ⟨g, o + 2, none⟩ = some (.int .i64 row) ∧ w.cell? ⟨g, o + 3, none⟩ = some (.int .i64 col) ∧ w.cell? ⟨g, o + 4, none⟩ = some (.int .i64 e1) ∧ w.cell? ⟨g, o + 5, none⟩ = some (.int .i64 e2) ∧ w.cell? ⟨g, o + 6, none⟩ = some (.int .i64 x) ∧ w.cell? ⟨g, o + 7, none⟩ = some (.slice av nv cv)) ∧ I64 on ∧ InB (e1, e2) ∧ I64 row ∧ Fz w (.slice av nv cv) vals ∧ vals.length ≤ 17592186044416
theorem Op1.on {w w' : World} {g o : Nat} (h : Op1 w g o) (hb : Below w.heap.size w w') : ∃ (kd on row col e1 e2 x : Int) (av : Option Addr) (nv cv : Nat) (vals : List Int), (w'.cell? ⟨g, o, none⟩ = some (.int .i64 kd) ∧ w'.cell? ⟨g, o + 1, none⟩ = some (.int .i64 on) ∧ w'.cell? ⟨g, o + 2, none⟩ = some (.int .i64 row) ∧ w'.cell? ⟨g, o + 3, none⟩ = some (.int .i64 col) ∧ w'.cell? ⟨g, o + 4, none⟩ = some (.int .i64 e1) ∧ w'.cell? ⟨g, o + 5, none⟩ = some (.int .i64 e2) ∧ w'.cell? ⟨g, o + 6, none⟩ = some (.int .i64 x) ∧ w'.cell? ⟨g, o + 7, none⟩ = some (.slice av nv cv)) ∧ I64 on ∧ InB (e1, e2) ∧ I64 row ∧ (Fz w' (.slice av nv cv) vals ∧ (0 < vals.length → ∀ k, (Value.slice av nv cv).ownBlock = some k → k < w.heap.size)) ∧ vals.length ≤ 17592186044416 := by
  obtain ⟨kd, on, row, col, e1, e2, x, av, nv, cv, vals, ⟨c0, c1, c2, c3, c4, c5, c6, c7⟩, h1, h2, h3, h4, h5⟩ := h
  have up : ∀ {q : Addr} {x : Value}, w.cell? q = some x → w'.cell? q = some x := fun {q x} hc => (hb.cell (p := q) (World.block_lt_of_cell? w _ hc)).trans hc
  exact ⟨kd, on, row, col, e1, e2, x, av, nv, cv, vals, ⟨up c0, up c1, up c2, up c3, up c4, up c5, up c6, up c7⟩, h1, h2, h3, ⟨h4.later hb, fun h0 k e => h4.lt h0 k e⟩, h5⟩
/-- A script that came in. -/
def Sc (w : World) (v : Value) (n : Nat) : Prop :=
  ∃ ao c, v = .slice ao n c ∧ n ≤ c ∧ c ≤ maxLen ∧ ∀ i, i < n → ∃ g o, ao = some ⟨g, o, none⟩ ∧ Op1 w g (o + i * 8)
/-- The law's world, with nothing in it. -/
theorem Bu.start {w W : World} {gw : Nat} (hb : w.heap.size ≤ gw) (hW : W.heap[gw]? = some (.cells #[.slice none 0 0, .slice none 0 0, .slice none 0 0] 29 (0, 0))) : Bu W gw w.heap.size 0 (fun _ => (0, 0)) 0 (fun _ => ([], [])) (fun _ => ([], [])) [] := by
  have hlt := lt_of_block hW
  refine ⟨fun k => if k = gw then 1 else 0, ⟨by omega, fun k hk => if_neg (by omega)⟩, fun i hi => absurd hi (by omega), fun i hi => absurd hi (by omega), .slice none 0 0, .slice none 0 0, .slice none 0 0, ⟨hW, ⟨rfl, .inl ⟨rfl, rfl⟩⟩, ⟨rfl, .inl ⟨rfl, rfl⟩⟩, ⟨rfl, .inl ⟨rfl, rfl⟩⟩, ⟨by simp [Value.ownBlock], by simp [Value.ownBlock], by simp [Value.ownBlock]⟩, fun q e => by simp [Value.ownBlock] at e, fun q e => by simp [Value.ownBlock] at e, fun q e => by simp [Value.ownBlock] at e⟩, ⟨⟨hlt, if_pos rfl⟩, In.nil _, In.nil _, In.nil _⟩, fun y hy => by cases hy⟩
theorem Bu.looks {W : World} {gw B M n : Nat} {G : Nat → Nat × Nat} {C D : Nat → Ts} {L : List Held} (h : Bu W gw B M G n C D L) (hL : L.length ≤ 1000000) : Calls Try.prog 8 #[.pointer (some ⟨gw, 0, none⟩)] W fun e w' => e = .returned (.bool true) ∧ Below W.heap.size W w' := by
  obtain ⟨own, hF, hb⟩ := h
  exact looks_any hb hL
theorem Bu.len {W : World} {gw B M n : Nat} {G : Nat → Nat × Nat} {C D : Nat → Ts} {L : List Held} (h : Bu W gw B M G n C D L) : ∃ al cl, W.cell? ⟨gw, 0, none⟩ = some (.slice al n cl) := by
  obtain ⟨own, hF, -, -, vl, vi, vm, k1, -⟩ := h
  obtain ⟨al, cl, rfl⟩ := own_len k1.2.1
  exact ⟨al, cl, k1.cell.1⟩
end Go.Proofs.Ytlnjphfkinajdaa
