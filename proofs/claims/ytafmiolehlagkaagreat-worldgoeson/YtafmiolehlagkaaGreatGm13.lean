import Derived.Test.YtafmiolehlagkaaGreatGm12
import Derived.Laws.AppendOwnNone
import Derived.Test.YtafmiolehlagkaaGreatGm9
import Derived.Test.YtafmiolehlagkaaGreatIGive
import Derived.Test.YtafmiolehlagkaaGreatGm5
import Derived.Test.YtafmiolehlagkaaGreatWDes
import Derived.Test.YtafmiolehlagkaaGreatGm3
import Derived.Test.YtafmiolehlagkaaGreatGm6
import Derived.Test.YtafmiolehlagkaaGreatGm4
/-
  World: how the three worlds come about.
-/
namespace Go.Proofs.YtafmiolehlagkaaGreat
open Go.RowKit
set_option maxRecDepth 100000
section
variable {w W W' : World} {o : Nat → Nat → Nat} {g : Nat → Nat} {v : Nat → Value} {N L : Nat} {s : Nat → Sd}
/-- One of them gets a list of its own. -/
theorem Tri.list (h : Tri w W o g v N L s) (i : Nat) (hi : i < 3) (vi : Value) (A : List (Nat × Nat)) (hb : Below W.heap.size W W') (ho : W'.ownsRow W.heap.size 29 2 vi A.length (ec A)) (hL : A.length ≤ L) (hA : ∀ p ∈ A, InB ((p.1 : Int), (p.2 : Int))) :
    Tri w W' (fun j => rel (o j) W 0) g (fun j => if j = i then vi else v j) N L (fun j => if j = i then ((s i).1, (s i).2.1, (s i).2.2.1, A) else s j) := by
  obtain ⟨a1, a2, a3, a4, a5, a6, a7⟩ := h.later hb
  have hB := h.2.2.2.2.2.2.size
  have hnew : ∀ k, vi.ownBlock = some k → W.heap.size ≤ k := fun k e => (ho.lt k e).1
  have hold : ∀ j, j < 3 → ∀ k, (v j).ownBlock = some k → k < W.heap.size := fun j hj k e => ((h.2.1 j hj).1.lt k e).2
  refine ⟨fun j hj => ?_, fun j hj => ?_, fun j l hj hl k e => ?_, fun j l hj hl hjl k e => ?_, a5, a6, a7⟩
  · by_cases c : j = i
    · subst c
      simp only [if_true]
      exact a1 j hj
    · simp only [if_neg c]
      exact a1 j hj
  · by_cases c : j = i
    · subst c
      simp only [if_true]
      exact ⟨own_lower ho hB, hL, hA⟩
    · simp only [if_neg c]
      exact a2 j hj
  · dsimp only at e
    by_cases c : j = i
    · rw [if_pos c] at e
      exact rel_new (hnew k e)
    · rw [if_neg c] at e
      exact a3 j l hj hl k e
  · dsimp only at e ⊢
    by_cases c : j = i
    · rw [if_pos c] at e
      have c2 : l ≠ i := fun x => hjl (c.trans x.symm)
      rw [if_neg c2]
      intro x
      have h1 := hnew k e
      have h2 := hold l hl k x
      omega
    · rw [if_neg c] at e
      by_cases c2 : l = i
      · rw [if_pos c2]
        intro x
        have h1 := hnew k x
        have h2 := hold j hj k e
        omega
      · rw [if_neg c2]
        exact a4 j l hj hl hjl k e
end
section
variable {w W W' : World} {oa ox oy : Nat → Nat} {ga gx gy : Nat} {va vx vy v' : Value} {N L : Nat} {sa sx sy : Sd}
theorem Tr.list1 (h : Tr w W oa ox oy ga gx gy va vx vy N L sa sx sy) (A : List (Nat × Nat)) (hb : Below W.heap.size W W') (ho : W'.ownsRow W.heap.size 29 2 v' A.length (ec A)) (hL : A.length ≤ L) (hA : ∀ p ∈ A, InB ((p.1 : Int), (p.2 : Int))) : Tr w W' (rel oa W 0) (rel ox W 0) (rel oy W 0) ga gx gy va v' vy N L sa (sx.1, sx.2.1, sx.2.2.1, A) sy := by
  refine (Tri.list h 1 (by omega) v' A hb ho hL hA).congr (fun i hi => ?_) (fun i hi => ?_) (fun i hi => ?_) (fun i hi => ?_) <;> rcases three i hi with rfl | rfl | rfl <;> rfl
theorem Tr.list2 (h : Tr w W oa ox oy ga gx gy va vx vy N L sa sx sy) (A : List (Nat × Nat)) (hb : Below W.heap.size W W') (ho : W'.ownsRow W.heap.size 29 2 v' A.length (ec A)) (hL : A.length ≤ L) (hA : ∀ p ∈ A, InB ((p.1 : Int), (p.2 : Int))) : Tr w W' (rel oa W 0) (rel ox W 0) (rel oy W 0) ga gx gy va vx v' N L sa sx (sy.1, sy.2.1, sy.2.2.1, A) := by
  refine (Tri.list h 2 (by omega) v' A hb ho hL hA).congr (fun i hi => ?_) (fun i hi => ?_) (fun i hi => ?_) (fun i hi => ?_) <;> rcases three i hi with rfl | rfl | rfl <;> rfl
/-- The three, once the second was read and the third cloned. -/
theorem Tr.start {w1 w3 w4 w5 : World} {own : Nat → Nat} {gw i : Nat} {v : Value} {s : Sd} (h : Gw w w1 own gw i v s) (hi : i ≤ 400) (hb3 : Below w1.heap.size w1 w3) (hb4 : Below w3.heap.size w3 w4) (hx : Wn w4 ox gx 600 usualK s.1 s.2.1 s.2.2.1) (hx0 : ∀ k, k < w3.heap.size → ox k = 0) (hb5 : Below w4.heap.size w4 w5) (hy : Wn w5 oy gy (4 * i + 8192) usualK s.1 s.2.1 s.2.2.1) (hy0 : ∀ k, k < w4.heap.size → oy k = if rel own w1 0 k = 2 then 2 else 0) :
    Tr w w5 (rel own w1 0) (rel ox w4 0) oy gw gx gy v (.slice none 0 0) (.slice none 0 0) 10000 400 s (s.1, s.2.1, s.2.2.1, []) (s.1, s.2.1, s.2.2.1, []) := by
  obtain ⟨h1, h2, h3, h4, h5, h6, h7⟩ := h
  have hb14 := below_on hb3 hb4
  have hb15 := below_on hb14 hb5
  have z1 := h6.size
  have z3 := hb3.size
  have z4 := hb4.size
  have z5 := hb5.size
  have hnone : ∀ k, (Value.slice none 0 0).ownBlock = some k → False := fun k e => by simp [Value.ownBlock] at e
  have hA : ∀ k, v.ownBlock = some k → w.heap.size ≤ k ∧ k < w1.heap.size := fun k e => h2.lt k e
  have hnw : ∀ k, v.ownBlock = some k → rel own w1 0 k = 0 := fun k e => (rel_old (hA k e).2).trans (h3 k e)
  refine ⟨fun j hj => ?_, fun j hj => ?_, fun j l hj hl k e => ?_, fun j l hj hl hjl k e => ?_, fun j l hj hl hjl k hk e1 e2 => ?_, fun j hj k hk => ?_, below_on h6 hb15⟩
  · rcases three j hj with rfl | rfl | rfl
    · exact (h1.later hb15).up (by omega)
    · exact (hx.later hb5).up (by omega)
    · exact hy.up (by omega)
  · rcases three j hj with rfl | rfl | rfl
    · exact ⟨own_later h2 hb15, Nat.le_trans h4 hi, h5⟩
    · exact ⟨World.ownsRow_nil _ _ _ _, Nat.zero_le _, fun p hp => by cases hp⟩
    · exact ⟨World.ownsRow_nil _ _ _ _, Nat.zero_le _, fun p hp => by cases hp⟩
  · rcases three j hj with rfl | rfl | rfl
    · have e' : v.ownBlock = some k := e
      have hk := hA k e'
      rcases three l hl with rfl | rfl | rfl
      · exact hnw k e'
      · show rel ox w4 0 k = 0
        rw [rel_old (by omega)]
        exact hx0 k (by omega)
      · show oy k = 0
        rw [hy0 k (by omega), hnw k e']
        rfl
    · exact (hnone k e).elim
    · exact (hnone k e).elim
  · rcases three j hj with rfl | rfl | rfl
    · rcases three l hl with rfl | rfl | rfl
      · exact absurd rfl hjl
      · exact fun x => (hnone k x).elim
      · exact fun x => (hnone k x).elim
    · exact (hnone k e).elim
    · exact (hnone k e).elim
  · have ka : ∀ q, rel own w1 0 q ≠ 0 → q < w1.heap.size := fun q e => Nat.lt_of_not_le (fun c => e (rel_new c))
    have kx : ∀ q, rel ox w4 0 q ≠ 0 → w3.heap.size ≤ q ∧ q < w4.heap.size := fun q e => by
      have c1 : q < w4.heap.size := Nat.lt_of_not_le (fun c => e (rel_new c))
      rw [rel_old c1] at e
      exact ⟨Nat.le_of_not_lt (fun c => e (hx0 q c)), c1⟩
    rcases three j hj with rfl | rfl | rfl
    · have e1' : rel own w1 0 k ≠ 0 := e1
      have e2' : rel own w1 0 k ≠ 2 := e2
      have hk1 := ka k e1'
      rcases three l hl with rfl | rfl | rfl
      · exact absurd rfl hjl
      · show rel ox w4 0 k = 0
        exact Classical.byContradiction (fun c => by have := kx k c; omega)
      · show oy k = 0
        rw [hy0 k (by omega), if_neg e2']
    · have hk1 := kx k e1
      rcases three l hl with rfl | rfl | rfl
      · show rel own w1 0 k = 0
        exact rel_new (by omega)
      · exact absurd rfl hjl
      · show oy k = 0
        rw [hy0 k (by omega), rel_new (by omega)]
        rfl
    · have e1' : oy k ≠ 0 := e1
      have e2' : oy k ≠ 2 := e2
      have hk1 : w4.heap.size ≤ k := Nat.le_of_not_lt (fun c => by
        rw [hy0 k c] at e1' e2'
        by_cases d : rel own w1 0 k = 2
        · rw [if_pos d] at e2'
          exact e2' rfl
        · rw [if_neg d] at e1'
          exact e1' rfl)
      rcases three l hl with rfl | rfl | rfl
      · show rel own w1 0 k = 0
        exact rel_new (by omega)
      · show rel ox w4 0 k = 0
        exact rel_new hk1
      · exact absurd rfl hjl
  · rcases three j hj with rfl | rfl | rfl
    · show rel own w1 0 k = 0
      rw [rel_old (by omega)]
      exact h7 k hk
    · show rel ox w4 0 k = 0
      rw [rel_old (by omega)]
      exact hx0 k (by omega)
    · show oy k = 0
      rw [hy0 k (by omega), rel_old (by omega), h7 k hk]
      rfl
end
end Go.Proofs.YtafmiolehlagkaaGreat

/-
  World: a list of entities, copied behind an empty one.
-/
namespace Go.Proofs.YtafmiolehlagkaaGreat
open Go.RowKit
set_option maxRecDepth 100000
theorem infoE : (Tryz.prog.info? 29).map (fun i => (i.zero, i.size, i.bytes)) = some (some (.agg #[.int .i64 0, .int .i64 0]), 2, 16) := by kernel_rfl
theorem wpList_append_all {w : World} {ops : Array Oper} {rest : List Oper} {o : Oper} {a : Act} {Q : Exit → Act → World → Prop} (hgd : o.guard = none) (s x : Operand)
    (ho : o.op = .call { callee := .builtin .append, args := #[s, x], argTypes := #[39, 39] }) (A : List (Nat × Nat)) (B : Nat) (v : Value) (hv : w.ownsRow B 29 2 v A.length (ec A)) (hn : A.length ≤ 1000)
    (hs : a.eval s = .slice (some ⟨w.heap.size, 0, none⟩) 0 0) (hx : a.eval x = v)
    (h : ∀ v' w', w'.ownsRow w.heap.size 29 2 v' A.length (ec A) → Below w.heap.size w w' → wpList Tryz.prog ops Q rest (a.put o.dst v') w') :
    wpList Tryz.prog ops Q (o :: rest) a (w.alloc (.cells #[] 29)) := by
  obtain ⟨i0, hi, hz0, hz1, hz2⟩ := info_parts infoE
  have hb := below_alloc w (.cells #[] 29)
  have hlit : (w.alloc (.cells #[] 29)).ownsRow w.heap.size 29 2 (.slice (some ⟨w.heap.size, 0, none⟩) 0 0) 0 [] := World.ownsRow_lit w #[] 0 (Nat.le_refl _) (Nat.zero_le _) rfl
  have hv' := own_later hv hb
  rcases hv.2 with ⟨rfl, hl⟩ | ⟨g, c, cur, rfl, -, hg, h1, h2, hcs, htake⟩
  · have hA : A = [] := List.eq_nil_of_length_eq_zero hl
    subst hA
    exact wpList_append_own_none hgd s x 39 ho w.heap.size 29 i0 2 Tryz.underlying39 hi _ 0 [] hs hlit hx (h _ _ hlit hb)
  · refine wpList_append_own_at _ hgd s x 39 ho w.heap.size 29 i0 (.agg #[.int .i64 0, .int .i64 0]) 2 16 Tryz.underlying39 hi hz0 hz1 hz2 rfl (by decide) _ 0 [] hs hlit ⟨g, 0, none⟩ A.length c (ec A) hx (ec_len A) (fun j u hj => ?_) (fun u hu => ?_) (by unfold maxLen; omega) (by omega) (by simp) (fun v' w' g1 g2 _ _ => ?_)
    · have hj2 : j < (ec A).length := (List.getElem?_eq_some_iff.1 hj).1
      rw [add_at, Nat.zero_add, hv'.cellAt j (by rw [ec_len] at hj2; exact hj2)]
      exact hj
    · exact ec_one A u hu
    · rw [Nat.zero_add, List.nil_append] at g1
      refine h v' w' g1 (hb.grown g2 (by simp) (fun k e => ?_))
      simp [Value.ownBlock] at e
      omega
end Go.Proofs.YtafmiolehlagkaaGreat

/-
  Clone.
-/
namespace Go.Proofs.YtafmiolehlagkaaGreat
open Go.RowKit
set_option maxRecDepth 100000
set_option maxHeartbeats 1000000 in
theorem i_clone_ents (v : Value) (l : List (Nat × Nat)) (w : World) (h : w.ownsRow 0 29 2 v l.length (ec l)) (hn : l.length ≤ 1000000) :
    Calls Tryz.prog 141 #[v] w fun e w' => ∃ v', e = .returned v' ∧ w'.ownsRow w.heap.size 29 2 v' l.length (ec l) ∧ Below w.heap.size w w' := by
  obtain ⟨i0, hi, hz0, hz1, hz2⟩ := info_parts info41
  have q47 : ∀ (w : World) (a : Option Addr) (n c n' c' : Nat), (binOp .eql 39 (.slice a n c) (.slice none n' c')).run Tryz.prog w = .ok (.bool a.isNone) w := fun w a n c n' c' => Lib.run_eql_slice_nil w _ _ a n c n' c' Tryz.underlying39
  rcases h.2 with ⟨rfl, hl⟩ | ⟨g, cap, cur, rfl, -, hg, h1, h2, hcs, htake⟩
  · obtain rfl : l = [] := List.eq_nil_of_length_eq_zero (by omega)
    clear h hl
    go_enter Tryz.func141, Tryz.ntmps141
    go_wp2_with fail
    go_ret
    exact ⟨_, rfl, World.ownsRow_nil _ _ _ _, Below.refl _ _⟩
  · have H := hide h
    clear h hg hcs htake
    go_enter Tryz.func141, Tryz.ntmps141
    go_wp2_with (at_builtin; refine wpList_append_own_at _ rfl _ _ 39 rfl w.heap.size 29 i0 (.agg #[.int .i64 0, .int .i64 0]) 2 16 Tryz.underlying39 hi hz0 hz1 hz2 rfl (by decide) _ 0 [] rfl (World.ownsRow_lit w #[] 0 (Nat.le_refl _) (Nat.zero_le _) rfl) ⟨g, 0, none⟩ l.length cap (ec l) rfl (by rw [ec_len]) ?c1 (ec_one l) (by unfold maxLen; omega) (by omega) (by simp) ?_)
    case c1 => exact (H.out.alloc _).cells rfl
    intro v' w' ho hg _ _
    obtain ⟨ao, c, rfl⟩ := own_len ho
    have HO := hide ho
    have HG := hide hg
    clear ho hg
    go_wp2_with fail
    go_ret
    refine ⟨_, rfl, ?_, (below_alloc w _).grown HG.out (by simp) (fun k e => ?_)⟩
    · have := HO.out
      simpa using this
    · simp [Value.ownBlock] at e
      omega
set_option maxHeartbeats 4000000 in
set_option maxRecDepth 100000 in
theorem cloned_pm (g n : Nat) (vg vl vf : Value) (gs fr : List Nat) (lv : List (Nat × Nat)) (w : World) (h : Pm w g n vg vl vf gs fr lv) (hg : gs.length ≤ 1000000) (hl : lv.length ≤ 1000000) (hf : fr.length ≤ 1000000) :
    Calls Tryz.prog 69 #[.pointer (some ⟨g, 0, none⟩)] w fun e w' => ∃ g' v1 v2 v3, e = .returned (.pointer (some ⟨g', 0, none⟩)) ∧ Pm w' g' n v1 v2 v3 gs fr lv ∧ (∀ k, k = g' ∨ v1.ownBlock = some k ∨ v2.ownBlock = some k ∨ v3.ownBlock = some k → w.heap.size ≤ k) ∧ Below w.heap.size w w' := by
  obtain ⟨c0, c1, c2, c3⟩ := h.cell
  have J1 : Hid (∀ W, Below w.heap.size w W → Calls Tryz.prog 110 #[vg] W fun e w' => ∃ v', e = .returned v' ∧ Hid (w'.ownsRow w.heap.size 3 1 v' gs.length (ic gs) ∧ Below w.heap.size w w') ∧ w'.cell? ⟨g, 0, none⟩ = some (.int .i64 (n : Int)) ∧ w'.cell? ⟨g, 1, none⟩ = some vg ∧ w'.cell? ⟨g, 2, none⟩ = some vl ∧ w'.cell? ⟨g, 3, none⟩ = some vf) := fun W hW =>
    (i_clone_any vg gs.length gs W (own_later h.2.1 hW) hg).mono (by
      rintro e w' ⟨v', rfl, ho, hb⟩
      have hx := below_on hW hb
      exact ⟨v', rfl, ⟨own_lower ho hW.size, hx⟩, (h.later hx).cell⟩)
  have J2 : Hid (∀ W v1, W.ownsRow w.heap.size 3 1 v1 gs.length (ic gs) → Below w.heap.size w W → Calls Tryz.prog 141 #[vl] W fun e w' => ∃ v', e = .returned v' ∧ Hid (w'.ownsRow w.heap.size 3 1 v1 gs.length (ic gs) ∧ w'.ownsRow w.heap.size 29 2 v' lv.length (ec lv) ∧ Ap v1 v' ∧ Below w.heap.size w w') ∧ w'.cell? ⟨g, 0, none⟩ = some (.int .i64 (n : Int)) ∧ w'.cell? ⟨g, 1, none⟩ = some vg ∧ w'.cell? ⟨g, 2, none⟩ = some vl ∧ w'.cell? ⟨g, 3, none⟩ = some vf) := fun W v1 h1 hW =>
    (i_clone_ents vl lv W (own_later h.2.2.1 hW) hl).mono (by
      rintro e w' ⟨v', rfl, ho, hb⟩
      have hx := below_on hW hb
      refine ⟨v', rfl, ⟨own_later h1 hb, own_lower ho hW.size, fun k e1 e2 => ?_, hx⟩, (h.later hx).cell⟩
      have := (h1.lt k e1).2
      have := (ho.lt k e2).1
      omega)
  have J3 : Hid (∀ W v1 v2, W.ownsRow w.heap.size 3 1 v1 gs.length (ic gs) → W.ownsRow w.heap.size 29 2 v2 lv.length (ec lv) → Ap v1 v2 → Below w.heap.size w W → Calls Tryz.prog 110 #[vf] W fun e w' => ∃ v', e = .returned v' ∧ Hid (w'.ownsRow w.heap.size 3 1 v1 gs.length (ic gs) ∧ w'.ownsRow w.heap.size 29 2 v2 lv.length (ec lv) ∧ w'.ownsRow w.heap.size 3 1 v' fr.length (ic fr) ∧ Ap v1 v2 ∧ Ap v1 v' ∧ Ap v2 v' ∧ Below w.heap.size w w') ∧ w'.cell? ⟨g, 0, none⟩ = some (.int .i64 (n : Int)) ∧ w'.cell? ⟨g, 1, none⟩ = some vg ∧ w'.cell? ⟨g, 2, none⟩ = some vl ∧ w'.cell? ⟨g, 3, none⟩ = some vf) := fun W v1 v2 h1 h2 h12 hW =>
    (i_clone_any vf fr.length fr W (own_later h.2.2.2.1 hW) hf).mono (by
      rintro e w' ⟨v', rfl, ho, hb⟩
      have hx := below_on hW hb
      refine ⟨v', rfl, ⟨own_later h1 hb, own_later h2 hb, own_lower ho hW.size, h12, fun k e1 e2 => ?_, fun k e1 e2 => ?_, hx⟩, (h.later hx).cell⟩
      · have := (h1.lt k e1).2
        have := (ho.lt k e2).1
        omega
      · have := (h2.lt k e1).2
        have := (ho.lt k e2).1
        omega)
  clear h
  go_enter Tryz.func69, Tryz.ntmps69
  go_wp2_with fail
  go_region_held3 (fun W => W.cell? ⟨g, 0, none⟩ = some (.int .i64 (n : Int)) ∧ W.cell? ⟨g, 1, none⟩ = some vg ∧ W.cell? ⟨g, 2, none⟩ = some vl ∧ W.cell? ⟨g, 3, none⟩ = some vf) (go_keep) (first | (go_at_call 141; refine (J2.out _ _ HH.out.1 HH.out.2).mono ?_; rintro e w2 ⟨v2, rfl, HH2, x0, x1, x2, x3⟩; obtain ⟨a2, k2, rfl⟩ := own_len HH2.out.2.1) | (go_at_call 110; refine (J3.out _ _ _ HH2.out.1 HH2.out.2.1 HH2.out.2.2.1 HH2.out.2.2.2).mono ?_; rintro e w3 ⟨v3, rfl, HH3, y0, y1, y2, y3⟩; obtain ⟨a3, k3, rfl⟩ := own_len HH3.out.2.2.1) | (go_at_call 110; refine (J1.out _ (below_drew w)).mono ?_; rintro e w1 ⟨v1, rfl, HH, d0, d1, d2, d3⟩; obtain ⟨a1, k1, rfl⟩ := own_len HH.out.1))
  all_goals
    go_wp2_with fail
    go_ret
    obtain ⟨r1, r2, r3, r4, r5, r6, r7⟩ := HH3.out
    have hba := below_alloc w3 (.cells #[.int .i64 (n : Int), .slice a1 gs.length k1, .slice a2 lv.length k2, .slice a3 fr.length k3] 163)
    have hs := r7.size
    have hn : ∀ (v : Value), (∀ k, v.ownBlock = some k → k < w3.heap.size) → v.ownBlock ≠ some w3.heap.size := fun v hv e => by have := hv _ e; omega
    refine ⟨w3.heap.size, _, _, _, rfl, ⟨heap_alloc_new w3 _, own_lower (own_later r1 hba) (Nat.zero_le _), own_lower (own_later r2 hba) (Nat.zero_le _), own_lower (own_later r3 hba) (Nat.zero_le _), ⟨hn _ (fun k e => (r1.lt k e).2), hn _ (fun k e => (r2.lt k e).2), hn _ (fun k e => (r3.lt k e).2)⟩, r4, r5, r6⟩, fun k e => ?_, below_on r7 hba⟩
    rcases e with rfl | e | e | e
    · exact hs
    · exact (r1.lt k e).1
    · exact (r2.lt k e).1
    · exact (r3.lt k e).1
theorem i_cloned_any {w : World} {S : Nat → Prop} {g n : Nat} {gs fr : List Nat} (h : Pl w S g n gs fr) :
    Calls Tryz.prog 69 #[.pointer (some ⟨g, 0, none⟩)] w fun e w' => ∃ g', e = .returned (.pointer (some ⟨g', 0, none⟩)) ∧ Pl w' (fun k => w.heap.size ≤ k) g' n gs fr ∧ Below w.heap.size w w' := by
  obtain ⟨⟨vg, vl, vf, hp, _⟩, ho⟩ := h
  have h1 := ho.2.2.1
  have h2 := ho.2.1
  have h3 := ho.free_len
  refine (cloned_pm g n vg vl vf gs fr _ w hp (by omega) (by rw [lvOf_len]; omega) (by omega)).mono ?_
  rintro e w' ⟨g', v1, v2, v3, rfl, q1, q2, q3⟩
  exact ⟨g', rfl, ⟨⟨v1, v2, v3, q1, q2 _ (.inl rfl), fun k e => q2 k (.inr (.inl e)), fun k e => q2 k (.inr (.inr (.inl e))), fun k e => q2 k (.inr (.inr (.inr e)))⟩, ho⟩, q3⟩
end Go.Proofs.YtafmiolehlagkaaGreat

/-
  World: Clone: a world beside another one, of the same kinds.
-/
namespace Go.Proofs.YtafmiolehlagkaaGreat
open Go.RowKit
set_option maxRecDepth 100000
/-- The tables of the sets S are cloned: o says whose each new block is, p where each clone lies. -/
def Cz (w : World) (gt M : Nat) (q : Nat → Option Nat) (T : Nat → Ts) (W : World) (S : List Nat) (cnt : Nat) (o : Nat → Nat) (p : Nat → Option Nat) : Prop :=
  Rq W gt (w.heap.size + 1) M q S cnt ∧ Mq W w.heap.size S.length p ∧ (∀ s, (p s).isSome = true ↔ s ∈ S) ∧ (∀ s g, p s = some g → TbS W (fun k => k < W.heap.size ∧ w.heap.size + 1 < k ∧ o k = 10 + s) g (T s) M) ∧ Below w.heap.size w W
section
variable {w w' : World} {own : Nat → Nat} {gw gp gm gt M M' : Nat} {vk : Value} {ks : List Kind} {gs fr gs' fr' : List Nat} {f f' : Int × Int → Option Nat} {q q' : Nat → Option Nat} {T T' : Nat → Ts} {S : List Nat} {cnt : Nat} {W : World} {o : Nat → Nat} {p : Nat → Option Nat}
theorem Cz.short (h : Cz w gt M q T W S cnt o p) (hw : Wi ks f q T) : S.length ≤ 8192 := by
  obtain ⟨⟨D, left, -, a2, a3, -⟩, -⟩ := h
  refine nodup_len 8192 S a2 (fun s hs => ?_)
  obtain ⟨g, hg⟩ := Option.isSome_iff_exists.1 (a3 s hs).2
  exact (hw.2 s g hg).1.1
theorem Cz.fin (h : Cz w gt M q T W S 0 o p) (hw : Wi ks f q T) : ∀ s, (p s).isSome = (q s).isSome := by
  obtain ⟨h1, h2, h3, -⟩ := h
  intro s
  cases hq : q s with
  | none =>
    have : s ∉ S := fun hs => by
      obtain ⟨D, left, -, -, a3, -⟩ := h1
      have := (a3 s hs).2
      rw [hq] at this
      cases this
    have h4 : ¬ (p s).isSome = true := fun e => this ((h3 s).1 e)
    simpa using h4
  | some g =>
    have := (hw.2 s g hq).1.1
    have h4 := (h3 s).2 (h1.done rfl s (by omega) (by rw [hq]; rfl))
    rw [h4]
    rfl
/-- One table more. -/
theorem Cz.step {w1 w5 w9 : World} {s g' cnt1 : Nat} (h : Cz w gt M q T W S cnt o p) (hgt : gt < w.heap.size) (hs : s ∉ S) (n5 : Rq w1 gt (w.heap.size + 1) M q (S ++ [s]) cnt1) (n7 : W.grownBy w1 (some (w.heap.size + 1))) (hsz : w1.heap.size = W.heap.size) (hb5 : Below w1.heap.size w1 w5) (ht : TbS w5 (fun k => w1.heap.size ≤ k) g' (T s) M) (hm9 : Mq w9 w.heap.size (S.length + 1) (fun x => if x = s then some g' else p x)) (ht9 : w5.mapTurned w9 w.heap.size) (hW : w.heap.size + 2 ≤ W.heap.size) :
    Cz w gt M q T w9 (S ++ [s]) cnt1 (fun k => if k < w1.heap.size then o k else 10 + s) (fun x => if x = s then some g' else p x) := by
  obtain ⟨h1, h2, h3, h4, h5⟩ := h
  have hm19 : Mv w1 w9 (fun k => k = w.heap.size) := (Mv.of_below hb5 (fun k => k = w.heap.size)).trans (mv_turned ht9) (fun k _ e => e)
  have hm7 : Mv W w1 (fun k => k = w.heap.size + 1) := ⟨n7.1, n7.2, n7.3, n7.size, fun k hk e => n7.block k hk (fun e' => e (by simpa using e'))⟩
  have hmW : Mv W w9 (fun k => k = w.heap.size ∨ k = w.heap.size + 1) := (hm7.mono (fun _ _ e => .inr e)).trans hm19 (fun k _ e => .inl e)
  refine ⟨(n5.kept (grown_later hb5) (by simp) (by simp)).kept ht9.grown (by simp; omega) (by simp), by rw [List.length_append]; exact hm9, fun x => ?_, fun x gx hx => ?_, h5.trans (hmW.below (by omega) (fun k e => by omega))⟩
  · by_cases c : x = s
    · subst c
      simp
    · simp only [if_neg c]
      rw [h3 x]
      simp [c]
  · dsimp only at hx
    by_cases c : x = s
    · subst c
      rw [if_pos rfl] at hx
      obtain rfl := Option.some.inj hx
      refine ((ht.tight.frame (mv_turned ht9) (fun k e e' => by have := e.1; omega))).mono (fun k e => ⟨Nat.lt_of_lt_of_le e.2 ht9.grown.size, by have := e.1; omega, if_neg (by have := e.1; omega)⟩)
    · rw [if_neg c] at hx
      refine ((h4 x gx hx).frame hmW (fun k e e' => by have := e.2.1; omega)).mono (fun k e => ⟨Nat.lt_of_lt_of_le e.1 hmW.size, e.2.1, ?_⟩)
      dsimp only
      rw [if_pos (by have := e.1; omega)]
      exact e.2.2
/-- The clone, whole. -/
def cloneOwn (own o : Nat → Nat) (a b c d e : Nat) : Nat → Nat := fun k => if k < a then (if own k = 2 then 2 else 0) else if k = a then 5 else if k < b then o k else if k < c then 3 else if k = d then 4 else if k = e then 1 else 0
theorem clone_fin {wr w6 w7 : World} {g1 g2 : Nat} (h : Wx 0 w own gw vk gp gm gt M ks gs fr f q T) (hc : Cz w gt M q T wr S 0 o p) (hw : Wi ks f q T) (p1 : Pl w6 (fun k => wr.drew.heap.size ≤ k) g1 200 gs fr) (b6 : Below wr.drew.heap.size wr.drew w6) (hg2 : w6.heap.size = g2) (p2 : Mp w7 g2 M f) (b7 : Below w6.heap.size w6 w7) :
    Wx 0 (w7.alloc (.cells #[vk, .pointer (some ⟨g1, 0, none⟩), .map (some g2), .map (some w.heap.size)] 109)) (cloneOwn own o w.heap.size wr.heap.size w6.heap.size g2 w7.heap.size) w7.heap.size vk g1 g2 w.heap.size (M + 8192) ks gs fr f p T := by
  have hl := hc.short hw
  obtain ⟨c1, c2, c3, c4, c5⟩ := hc
  have q1 := c5.size
  have q2 : wr.heap.size ≤ w6.heap.size := b6.size
  have q3 := b7.size
  have q4 := p2.lt
  have q5 : w.heap.size < wr.heap.size := c2.lt
  have b8 := below_alloc w7 (.cells #[vk, .pointer (some ⟨g1, 0, none⟩), .map (some g2), .map (some w.heap.size)] 109)
  have hb : Below wr.heap.size wr (w7.alloc (.cells #[vk, .pointer (some ⟨g1, 0, none⟩), .map (some g2), .map (some w.heap.size)] 109)) := below_on (below_on (below_on (below_drew wr) b6) b7) b8
  have hsz : (w7.alloc (.cells #[vk, .pointer (some ⟨g1, 0, none⟩), .map (some g2), .map (some w.heap.size)] 109)).heap.size = w7.heap.size + 1 := by simp
  refine ⟨⟨?_, ?_, ?_⟩, ⟨by omega, by omega⟩, heap_alloc_new _ _, ?_, fun _ => ?_, fun _ => ?_, fun _ => ?_, fun s g hg _ => ?_⟩
  · unfold cloneOwn
    rw [if_neg (by omega), if_neg (by omega), if_neg (by omega), if_neg (by omega), if_neg (by omega), if_pos rfl]
  · unfold cloneOwn
    rw [if_neg (by omega), if_neg (by omega), if_neg (by omega), if_neg (by omega), if_pos rfl]
  · unfold cloneOwn
    rw [if_neg (by omega), if_pos rfl]
  · refine h.2.2.2.1.next (fun k hk => (below_on c5 hb).block k hk.1) (fun k hk => ⟨by have := hk.1; omega, ?_⟩)
    unfold cloneOwn
    rw [if_pos hk.1, if_pos hk.2]
  · refine ((p1.tight.later (below_on b7 b8))).mono (fun k e => ⟨by have := e.2; omega, ?_⟩)
    have e1 : wr.heap.size ≤ k := e.1
    unfold cloneOwn
    rw [if_neg (by omega), if_neg (by omega), if_neg (by omega), if_pos e.2]
  · exact (p2.same (b8.block _ q4)).mono (by omega)
  · exact (c2.same (hb.block _ q5)).mono (by omega)
  · refine (((c4 s g hg).frame (Mv.of_below hb (fun _ => False)) (fun _ _ e => e)).up (by omega)).mono (fun k e => ⟨by have := e.1; omega, ?_⟩)
    unfold cloneOwn
    rw [if_neg (by have := e.2.1; omega), if_neg (by have := e.2.1; omega), if_pos e.1]
    exact e.2.2
set_option maxHeartbeats 4000000 in
theorem wclone_any (h : Wx 0 w own gw vk gp gm gt M ks gs fr f q T) (hw : Wi ks f q T) : Calls Tryz.prog 20 #[.pointer (some ⟨gw, 0, none⟩)] w fun e w' => ∃ (g' gp' gm' gt' : Nat) (own' : Nat → Nat) (q' : Nat → Option Nat), e = .returned (.pointer (some ⟨g', 0, none⟩)) ∧ Wx 0 w' own' g' vk gp' gm' gt' (M + 8192) ks gs fr f q' T ∧ (∀ s, (q' s).isSome = (q s).isSome) ∧ (∀ k, k < w.heap.size → own' k = if own k = 2 then 2 else 0) ∧ Below w.heap.size w w' := by
  have hgt := h.2.1.2
  have h1 := h.later (below_alloc w (.map #[] 0))
  obtain ⟨D, hD, hcl, hkl⟩ := h1.mq
  obtain ⟨-, -, -, c3⟩ := h1.cells
  have M0 := hide (Mq.made w)
  have H := hide h
  have HW := hide hw
  have HCL := hide hcl
  have HKL := hide hkl
  clear h hw hcl hkl h1
  have hmm := @run_makeMap Tryz.prog
  go_enter Tryz.func20, Tryz.ntmps20
  go_wp2_with (at_range; refine wpList_range_own _ rfl _ 107 rfl 3 133 keyed3 Tryz.underlying107 _ gt M D rfl hD ?_; intro w0 hrg0 hg0 hs0)
  have hs1 : (w.alloc (.map #[] 0)).heap.size = w.heap.size + 1 := by simp
  have HM0 : Hid (Mq w0 w.heap.size 0 (fun _ => none)) := by
    obtain ⟨D', x1, x2⟩ := M0.out
    exact ⟨D', x1.kept hg0 (by simp), x2⟩
  have HSZ : Hid (w.heap.size + 2 ≤ w0.heap.size) := by
    have := hs0
    rw [hs1] at this
    show _ ≤ _
    omega
  have H0 : Hid (∃ S cnt o p, Cz w gt M q T w0 S cnt o p ∧ w.heap.size + 2 ≤ w0.heap.size) := ⟨[], _, fun _ => 0, fun _ => none, ⟨Rq.start HCL.out HKL.out (hs1 ▸ hrg0), by simpa using HM0.out, (fun s => by simp), (fun s g e => by cases e), (below_alloc w _).grown hg0 (by rw [hs1]; omega) (fun k e => by cases e)⟩, HSZ.out⟩
  clear hrg0 hg0 HCL HKL hD c3 M0 HM0 HSZ
  go_frame
  rw [hs1]
  clear hs1 hs0
  go_loopw [4] (fun _ W => Hid (∃ S cnt o p, Cz w gt M q T W S cnt o p ∧ w.heap.size + 2 ≤ W.heap.size)) (fun _ W => W.rangeLeft gt (w.heap.size + 1))
  case atStart => exact H0
  case round =>
    have hrel' := hrel
    obtain ⟨S, cnt, o, p, hS, hsz2⟩ := hrel'
    have hle := hS.short HW.out
    rcases hS.1.next 0 with ⟨n1, n2⟩ | ⟨s, g, w1, cnt1, n1, n2, n3, n4, n5, n6, n7, n8, n9⟩
    · subst n1
      have HF := hide hS
      have HZ := hide hsz2
      clear hS hrel hsz2
      obtain ⟨ak, ck, hvk, -⟩ := H.out.2.2.2.1.kr
      subst hvk
      have hc := (H.out.later HF.out.2.2.2.2).cells
      obtain ⟨c0, c1, c2, -⟩ := hc
      have HCC : Hid (∀ W, Below wr.heap.size wr W → W.cell? ⟨gw, 0, none⟩ = some (.slice ak ks.length ck) ∧ W.cell? ⟨gw, 1, none⟩ = some (.pointer (some ⟨gp, 0, none⟩)) ∧ W.cell? ⟨gw, 2, none⟩ = some (.map (some gm))) := fun W hb =>
        ⟨(hb.cell (World.block_lt_of_cell? _ _ c0)).trans c0, (hb.cell (World.block_lt_of_cell? _ _ c1)).trans c1, (hb.cell (World.block_lt_of_cell? _ _ c2)).trans c2⟩
      have JP := hide (i_cloned_any ((H.out.later HF.out.2.2.2.2).pl.later (below_drew wr)))
      have JM : Hid (∀ W, Below wr.heap.size wr W → Calls Tryz.prog 70 #[.map (some gm)] W fun e w' => ∃ g', e = .returned (.map (some g')) ∧ W.heap.size = g' ∧ Mp w' g' M f ∧ Below W.heap.size W w') := fun W hb => clone_map gm M f W ((H.out.later (below_on HF.out.2.2.2.2 hb)).mp)
      go_upto_region 6 with fail
      go_region_held3 (fun W => W.cell? ⟨gw, 0, none⟩ = some (.slice ak ks.length ck) ∧ W.cell? ⟨gw, 1, none⟩ = some (.pointer (some ⟨gp, 0, none⟩)) ∧ W.cell? ⟨gw, 2, none⟩ = some (.map (some gm))) (go_keep) (first | (go_at_call 69; refine JP.out.mono ?_; rintro e w6 ⟨g1, rfl, p1, b6⟩; have hb6 := below_on (below_drew wr) b6; obtain ⟨y0, y1, y2⟩ := HCC.out _ hb6) | (go_at_call 70; refine (JM.out _ hb6).mono ?_; rintro e w7 ⟨g2, rfl, hg2, p2, b7⟩; obtain ⟨z0, z1, z2⟩ := HCC.out _ (below_on hb6 b7)))
      have HFIN := hide (And.intro p1 (And.intro b6 (And.intro hg2 (And.intro p2 b7))))
      clear p1 b6 hb6 hg2 p2 b7 y0 y1 y2 z0 z1 z2
      go_wp2_with fail
      go_ret
      have hfin := clone_fin H.out HF.out HW.out HFIN.out.1 HFIN.out.2.1 HFIN.out.2.2.1 HFIN.out.2.2.2.1 HFIN.out.2.2.2.2
      exact ⟨_, _, _, _, _, _, rfl, hfin, HF.out.fin HW.out, fun k hk => if_pos hk, below_on (below_on (below_on HF.out.2.2.2.2 (below_on (below_drew wr) HFIN.out.2.1)) HFIN.out.2.2.2.2) (below_alloc _ _)⟩
    · have hm7 : Mv wr w1 (fun k => k = w.heap.size + 1) := ⟨n7.1, n7.2, n7.3, n7.size, fun k hk e => n7.block k hk (fun e' => e (by simpa using e'))⟩
      have B1 : Hid (Below w.heap.size w w1) := hS.2.2.2.2.grown n7 hS.2.2.2.2.size (fun k e => by cases e; omega)
      obtain ⟨m, hm, htb⟩ := (H.out.later B1.out).tb n2
      have JL := hide (cloned_any htb)
      have HQ1 : Hid (Mq w1 w.heap.size S.length p) := hS.2.1.same (n7.block _ (by omega) (by simp))
      have HS := hide (And.intro hS (And.intro hsz2 (And.intro n3 (And.intro n5 (And.intro n7 (And.intro n8 n6))))))
      have HL := hide hle
      clear hS hrel n2 n3 n5 n6 n7 n8 htb B1 hm7 hle hsz2
      go_wp2_with fail
      refine JL.out.mono ?_
      rintro e w5 ⟨g', rfl, t1, b5⟩
      have hq5 : Mq w5 w.heap.size S.length p := HQ1.out.same (b5.block _ HQ1.out.lt)
      obtain ⟨w9, hr9, hm9, ht9⟩ := hq5.store s g' n1 (by have := HL.out; omega)
      have HC9 : Hid (Cz w gt M q T w9 (S ++ [s]) cnt1 (fun k => if k < w1.heap.size then o k else 10 + s) (fun x => if x = s then some g' else p x)) := HS.out.1.step hgt HS.out.2.2.1 HS.out.2.2.2.1 HS.out.2.2.2.2.1 HS.out.2.2.2.2.2.1 b5 ⟨m, hm, t1⟩ hm9 ht9 HS.out.2.1
      have HZ9 : Hid (w.heap.size + 2 ≤ w9.heap.size) := by
        have q1 := HS.out.2.1
        have q2 := HS.out.2.2.2.2.2.1
        have q3 := b5.size
        have q4 := ht9.grown.size
        show _ ≤ _
        omega
      have HLT : Hid (w9.rangeLeft gt (w.heap.size + 1) < wr.rangeLeft gt (w.heap.size + 1)) := by
        rw [HC9.out.1.left_eq, HS.out.1.1.left_eq]
        exact HS.out.2.2.2.2.2.2
      clear t1 b5 hq5 hm9 ht9
      go_wp2_with fail
      go_roundw
      case rel => exact ⟨_, _, _, _, HC9.out, HZ9.out⟩
      case measure => exact HLT.out
end
end Go.Proofs.YtafmiolehlagkaaGreat

/-
  World: Clone, told by who lives with what.
-/
namespace Go.Proofs.YtafmiolehlagkaaGreat
open Go.RowKit
set_option maxRecDepth 100000
theorem Wi.same {ks : List Kind} {f : Int × Int → Option Nat} {q q' : Nat → Option Nat} {T : Nat → Ts} (h : Wi ks f q T) (hq : ∀ s, (q' s).isSome = (q s).isSome) : Wi ks f q' T := by
  refine ⟨fun e s he => ?_, fun s g hg => ?_⟩
  · obtain ⟨h1, ⟨g, h2⟩, h3⟩ := h.1 e s he
    have := hq s
    rw [h2] at this
    exact ⟨h1, Option.isSome_iff_exists.1 this, h3⟩
  · have := hq s
    rw [hg] at this
    obtain ⟨g0, h0⟩ := Option.isSome_iff_exists.1 this.symm
    exact h.2 s g0 h0
theorem Wn.clone {w : World} {own : Nat → Nat} {gw N : Nat} {ks : List Kind} {gs fr : List Nat} {C : Co} (h : Wn w own gw N ks gs fr C) : Calls Tryz.prog 20 #[.pointer (some ⟨gw, 0, none⟩)] w fun e w' => ∃ (g' : Nat) (own' : Nat → Nat), e = .returned (.pointer (some ⟨g', 0, none⟩)) ∧ Wn w' own' g' (N + 8192) ks gs fr C ∧ (∀ k, k < w.heap.size → own' k = if own k = 2 then 2 else 0) ∧ Below w.heap.size w w' := by
  obtain ⟨vk, gp, gm, gt, q, T, h1, h2, h3⟩ := h
  refine (wclone_any h1 h2).mono ?_
  rintro e w' ⟨g', gp', gm', gt', own', q', rfl, k1, k2, k3, k4⟩
  exact ⟨g', own', rfl, ⟨vk, gp', gm', gt', q', T, k1, h2.same k2, h3⟩, k3, k4⟩
end Go.Proofs.YtafmiolehlagkaaGreat

/-
  World: a map from numbers to numbers: a range over it, a look, its length; a world of nobody.
-/
namespace Go.Proofs.YtafmiolehlagkaaGreat
open Go.RowKit
set_option maxRecDepth 100000
def Rn (w : World) (gm r n : Nat) (q : Nat → Option Nat) (cnt : Nat) : Prop :=
  ∃ (D : DataW Unit) (left : Lit → Bool), w.ranges Tryz.prog 3 (plainElem Tryz.prog 3) gm r n D left cnt ∧ (∀ kl, left kl = true → Maps.has D kl = true) ∧ (∀ s : Nat, s < 9007199254740992 → Maps.has D (.int .i64 (s : Int)) = (q s).isSome ∧ ∀ i, q s = some i → D.atKey (.int .i64 (s : Int)) (.lit (.int .i64 0)) = .lit (.int .i64 (i : Int))) ∧ ∀ kl, Maps.has D kl = true → ∃ s : Nat, s < 9007199254740992 ∧ kl = .int .i64 (s : Int)
section
variable {w w' : World} {gm r n cnt : Nat} {q : Nat → Option Nat}
theorem Rn.kept {row : Option Nat} (h : Rn w gm r n q cnt) (hg : w.grownBy w' row) (h1 : some gm ≠ row) (h2 : some r ≠ row) : Rn w' gm r n q cnt := by
  obtain ⟨D, left, a1, a2⟩ := h
  exact ⟨D, left, a1.kept hg h1 h2, a2⟩
theorem Rn.left_eq (h : Rn w gm r n q cnt) : w.rangeLeft gm r = cnt := by
  obtain ⟨D, left, a1, a2⟩ := h
  exact a1.left_eq
theorem Rn.start {D : DataW Unit} (h2 : ∀ s : Nat, s < 9007199254740992 → Maps.has D (.int .i64 (s : Int)) = (q s).isSome ∧ ∀ i, q s = some i → D.atKey (.int .i64 (s : Int)) (.lit (.int .i64 0)) = .lit (.int .i64 (i : Int))) (hz : ∀ kl, Maps.has D kl = true → ∃ s : Nat, s < 9007199254740992 ∧ kl = .int .i64 (s : Int)) (hr : w'.ranges Tryz.prog 3 (plainElem Tryz.prog 3) gm r n D (Maps.has D) (Maps.size D)) : Rn w' gm r n q (Maps.size D) :=
  ⟨D, _, hr, fun _ h => h, h2, hz⟩
/-- The next one: none is left, or one comes. -/
theorem Rn.next (h : Rn w gm r n q cnt) (ty : TypeId) :
    (cnt = 0 ∧ (Instr.next (.pointer (some ⟨r, 0, none⟩)) false ty).run Tryz.prog w = .ok (.tuple #[.bool false]) w) ∨
    ∃ (s i : Nat) (w' : World) (cnt' : Nat), s < 9007199254740992 ∧ q s = some i ∧ (Instr.next (.pointer (some ⟨r, 0, none⟩)) false ty).run Tryz.prog w = .ok (.tuple #[.bool true, .int .i64 (s : Int), .int .i64 (i : Int)]) w' ∧ Rn w' gm r n q cnt' ∧ cnt' < cnt ∧ w.grownBy w' (some r) ∧ w'.heap.size = w.heap.size ∧ (Instr.entry (.pointer (some ⟨r, 0, none⟩))).run Tryz.prog w' = .ok (.tuple #[.int .i64 (s : Int), .int .i64 (i : Int)]) w' := by
  obtain ⟨D, left, a1, a2, a3, a4⟩ := h
  rcases a1.next keyed3 ty with ⟨b1, b2, b3⟩ | ⟨key, v, kl, y, w', cnt', c1, c2, c3, c4, c5, c6, c7, c8, c9, c10⟩
  · exact .inl ⟨b1, b3⟩
  · obtain ⟨x, rfl, rfl, -⟩ := Maps.keyOf_int_inv Tryz.underlying3 c1
    have hh := a2 _ c2
    obtain ⟨s, hs, e⟩ := a4 _ hh
    simp only [Lit.int.injEq, true_and] at e
    subst e
    have h1 := (a3 s hs).1
    rw [hh] at h1
    obtain ⟨i, hi⟩ := Option.isSome_iff_exists.1 h1.symm
    obtain ⟨c, rfl, hc⟩ := plainElem_int_inv Tryz.underlying3 c3
    have hy := c4 (.lit (.int .i64 0))
    rw [(a3 s hs).2 i hi] at hy
    have : c = (i : Int) := by
      have h9 := hc.1
      rw [h9] at hy
      simpa using hy.symm
    subst this
    refine .inr ⟨s, i, w', cnt', hs, hi, c5, ⟨D, _, c6, fun kl hkl => ?_, a3, a4⟩, c7, c8, c9, c10⟩
    simp only [Bool.and_eq_true] at hkl
    exact a2 kl hkl.1
theorem Mi.look (h : Mi w gm n q) (s : Nat) (hs : s < 9007199254740992) (i : Nat) (hi : q s = some i) : (Instr.lookup 80 (.map (some gm)) (.int .i64 (s : Int)) false).run Tryz.prog w = .ok (.int .i64 (i : Int)) w := by
  obtain ⟨D, h1, h2, -⟩ := h
  obtain ⟨v, ps, hr, hv⟩ := World.ownsMap.look_one h1 keyed3 Tryz.underlying80 (zero3 w) (zd := .lit (.int .i64 0)) (zp := []) (plainElem_int Tryz.underlying3 (by decide)) (key3 s hs)
  rw [(h2 s hs).2 i hi] at hv
  obtain ⟨c, rfl, hc⟩ := plainElem_int_inv Tryz.underlying3 hv
  have : c = (i : Int) := by
    have := congrArg Prod.fst hc.1
    simpa using this.symm
  subst this
  exact hr
end
set_option maxHeartbeats 4000000 in
theorem emptied_any (w : World) : Calls Tryz.prog 25 #[] w fun e w' => ∃ gw, e = .returned (.pointer (some ⟨gw, 0, none⟩)) ∧ (∃ own, (∀ k, k < w.heap.size → own k = 0) ∧ Wn w' own gw 0 usualK [] [] (fun _ => none)) ∧ Below w.heap.size w w' := by
  go_enter Tryz.func25, Tryz.ntmps25
  go_wp2_with fail
  refine (usual_any w).mono ?_
  rintro e w2 ⟨v, rfl, hk, hb2⟩
  have J1 := hide (wn_new (hk w2 (Below.refl _ _)) usual_may)
  have HB2 := hide hb2
  obtain ⟨av, cv, rfl, -⟩ := hk w2 (Below.refl _ _)
  clear hk hb2
  go_wp2_with fail
  refine J1.out.mono ?_
  rintro e w3 ⟨gw, rfl, ⟨own, ho, hW⟩, hb3⟩
  have HE : Hid ((∃ own, (∀ k, k < w.heap.size → own k = 0) ∧ Wn w3 own gw 0 usualK [] [] (fun _ => none)) ∧ Below w.heap.size w w3) := ⟨⟨own, fun k hk => ho k (Nat.lt_of_lt_of_le hk HB2.out.size), hW⟩, below_on HB2.out hb3⟩
  clear J1 hW ho hb3 HB2
  go_wp2_with fail
  go_ret
  exact ⟨gw, rfl, HE.out⟩
end Go.Proofs.YtafmiolehlagkaaGreat

/-
  World: WorldOrder's state: two worlds beside one another, all that were given; who has what.
-/
namespace Go.Proofs.YtafmiolehlagkaaGreat
open Go.RowKit
set_option maxRecDepth 100000
/-! ### Two worlds beside one another -/
def So (w : World) (ga gb : Nat) (W : World) (oa ob : Nat → Nat) (v : Value) (A : List (Nat × Nat)) (M : Nat) (gs fr gs' fr' : List Nat) (Ca Cb : Co) : Prop :=
  Wn W oa ga M usualK gs fr Ca ∧ Wn W ob gb M usualK gs' fr' Cb ∧ (∀ k, k < W.heap.size → oa k ≠ 0 → ob k = 0) ∧ W.ownsRow w.heap.size 29 2 v A.length (ec A) ∧ (∀ k, v.ownBlock = some k → oa k = 0 ∧ ob k = 0) ∧ Fr w W oa ∧ Fr w W ob
section
variable {w W W' : World} {ga gb M M' : Nat} {oa ob oa' ob' : Nat → Nat} {v v9 : Value} {A : List (Nat × Nat)} {gs fr gs' fr' gs1 fr1 : List Nat} {Ca Cb C1 : Co}
theorem So.later (h : So w ga gb W oa ob v A M gs fr gs' fr' Ca Cb) (hb : Below W.heap.size W W') : So w ga gb W' (rel oa W 0) (rel ob W 0) v A M gs fr gs' fr' Ca Cb := by
  obtain ⟨h1, h2, h3, h4, h5, h6, h7⟩ := h
  refine ⟨h1.later hb, h2.later hb, fun k _ e => ?_, own_later h4 hb, fun k e => ⟨(rel_old (h4.lt k e).2).trans (h5 k e).1, (rel_old (h4.lt k e).2).trans (h5 k e).2⟩, h6.later hb, h7.later hb⟩
  by_cases c : k < W.heap.size
  · rw [rel_old c] at e ⊢
    exact h3 k c e
  · exact rel_new (by omega)
theorem So.turnA (h : So w ga gb W oa ob v A M gs fr gs' fr' Ca Cb) (hk : Wk oa oa' W W') (hw : Wn W' oa' ga M' usualK gs1 fr1 C1) (hM : M ≤ M') : So w ga gb W' oa' (rel ob W 0) v A M' gs1 fr1 gs' fr' C1 Cb := by
  obtain ⟨h1, h2, h3, h4, h5, h6, h7⟩ := h
  refine ⟨hw, (h2.frame hk.mv (fun k k1 k2 => h3 k k1 k2)).up hM, fun k _ e => ?_, hk.mv.own h4 (fun k e e2 => e2 (h5 k e).1), fun k e => ⟨(hk.1 k (h4.lt k e).2).trans (h5 k e).1, (rel_old (h4.lt k e).2).trans (h5 k e).2⟩, h6.wk hk, h7.frame hk.mv (fun k e => ?_)⟩
  · by_cases c : k < W.heap.size
    · rw [hk.1 k c] at e
      rw [rel_old c]
      exact h3 k c e
    · exact rel_new (by omega)
  · by_cases c : k < w.heap.size
    · exact absurd (h6.2 k c) e
    · omega
theorem So.turnB (h : So w ga gb W oa ob v A M gs fr gs' fr' Ca Cb) (hk : Wk ob ob' W W') (hw : Wn W' ob' gb M' usualK gs1 fr1 C1) (hM : M ≤ M') : So w ga gb W' (rel oa W 0) ob' v A M' gs fr gs1 fr1 Ca C1 := by
  obtain ⟨h1, h2, h3, h4, h5, h6, h7⟩ := h
  refine ⟨(h1.frame hk.mv (fun k k1 k2 => Classical.byContradiction fun c => k2 (h3 k k1 c))).up hM, hw, fun k _ e => ?_, hk.mv.own h4 (fun k e e2 => e2 (h5 k e).2), fun k e => ⟨(rel_old (h4.lt k e).2).trans (h5 k e).1, (hk.1 k (h4.lt k e).2).trans (h5 k e).2⟩, h6.frame hk.mv (fun k e => ?_), h7.wk hk⟩
  · by_cases c : k < W.heap.size
    · rw [rel_old c] at e
      rw [hk.1 k c]
      exact h3 k c e
    · exact absurd (rel_new (by omega)) e
  · by_cases c : k < w.heap.size
    · exact absurd (h7.2 k c) e
    · omega
theorem So.push (h : So w ga gb W oa ob v A M gs fr gs' fr' Ca Cb) {a b : Nat} (ho : W'.ownsRow w.heap.size 29 2 v9 (A.length + 1) (ec A ++ [.int .i64 (a : Int), .int .i64 (b : Int)])) (hg : W.grownBy W' v.ownBlock) (ha : v9.ownBlock = v.ownBlock ∨ v9.ownBlock = some W.heap.size) : So w ga gb W' (rel oa W 0) (rel ob W 0) v9 (A ++ [(a, b)]) M gs fr gs' fr' Ca Cb := by
  obtain ⟨h1, h2, h3, h4, h5, h6, h7⟩ := h
  have hm : Mv W W' (fun k => v.ownBlock = some k) := (Mv.refl W _).grown hg (fun k _ e => e)
  refine ⟨h1.frame hm (fun k _ e => (h5 k e).1), h2.frame hm (fun k _ e => (h5 k e).2), fun k _ e => ?_, ?_, fun k e => ?_, h6.frame hm (fun k e => (h4.lt k e).1), h7.frame hm (fun k e => (h4.lt k e).1)⟩
  · by_cases c : k < W.heap.size
    · rw [rel_old c] at e ⊢
      exact h3 k c e
    · exact rel_new (by omega)
  · rw [List.length_append, ec_append]
    exact ho
  · rcases ha with c | c
    · rw [c] at e
      exact ⟨(rel_old (h4.lt k e).2).trans (h5 k e).1, (rel_old (h4.lt k e).2).trans (h5 k e).2⟩
    · rw [c] at e
      obtain rfl := Option.some.inj e
      exact ⟨rel_new (Nat.le_refl _), rel_new (Nat.le_refl _)⟩
end
/-! ### Who has what -/
section
variable {w : World} {own : Nat → Nat} {gw N : Nat} {ks : List Kind} {gs fr : List Nat} {C : Co}
theorem Wn.sb (h : Wn w own gw N ks gs fr C) {e : Int × Int} {s : Nat} {vals : List Int} (hc : C e = some (s, vals)) : Sb ks s ∧ vals.length = fsum ks s 1 := by
  obtain ⟨vk, gp, gm, gt, q, T, h1, h2, h3, h4, h5, h6⟩ := h
  obtain ⟨-, ⟨g, hq⟩, -⟩ := h2.1 e s (fC_some hc)
  obtain ⟨k1, k2, -⟩ := h2.2 s g hq
  obtain ⟨j, hj, -, e2⟩ := h3 e s vals hc
  exact ⟨k1.2, by rw [← e2, rowOf_len, k2]⟩
end
/-- One has just the parts that b tells, made of y. -/
def Gv (o : Option (Nat × List Int)) (b : Nat → Bool) (y : Int) : Prop :=
  ∃ s vals, o = some (s, vals) ∧ Sb usualK s ∧ vals.length = fsum usualK s 1 ∧ (∀ k, k < 4 → s.testBit (k + 1) = b k) ∧ ∀ r, r ∈ partsL usualK s 1 vals ↔ ∃ k, k < 4 ∧ b k = true ∧ r = (k + 1, valsN y (c4 k))
theorem Gv.unique {o o' : Option (Nat × List Int)} {b : Nat → Bool} {y : Int} (h : Gv o b y) (h' : Gv o' b y) : o = o' := by
  obtain ⟨s, vals, rfl, a1, a2, a3, a4⟩ := h
  obtain ⟨s', vals', rfl, b1, b2, b3, b4⟩ := h'
  have hs : s = s' := by
    refine Nat.eq_of_testBit_eq (fun i => ?_)
    by_cases c : 1 ≤ i ∧ i ≤ 4
    · have x := a3 (i - 1) (by omega)
      have y := b3 (i - 1) (by omega)
      rw [show i - 1 + 1 = i by omega] at x y
      rw [x, y]
    · have hx : s.testBit i = false := by
        cases hh : s.testBit i with
        | false => rfl
        | true => exact absurd (a1 i hh) (by show ¬ (1 ≤ i ∧ i ≤ 4); exact c)
      have hy : s'.testBit i = false := by
        cases hh : s'.testBit i with
        | false => rfl
        | true => exact absurd (b1 i hh) (by show ¬ (1 ≤ i ∧ i ≤ 4); exact c)
      rw [hx, hy]
  subst hs
  have hv : vals = vals' := cont_ext a2 b2 (fun r => by rw [a4, b4])
  rw [hv]
theorem Gv.congr {o : Option (Nat × List Int)} {b b' : Nat → Bool} {y : Int} (h : Gv o b y) (hb : ∀ k, k < 4 → b k = b' k) : Gv o b' y := by
  obtain ⟨s, vals, rfl, a1, a2, a3, a4⟩ := h
  refine ⟨s, vals, rfl, a1, a2, fun k hk => (a3 k hk).trans (hb k hk), fun r => ?_⟩
  rw [a4]
  constructor
  · rintro ⟨k, k1, k2, k3⟩
    exact ⟨k, k1, (hb k k1).symm.trans k2, k3⟩
  · rintro ⟨k, k1, k2, k3⟩
    exact ⟨k, k1, (hb k k1).trans k2, k3⟩
/-- Nothing at all. -/
theorem Gv.none {s : Nat} {vals : List Int} {y : Int} (h1 : Sb usualK s) (h2 : vals.length = fsum usualK s 1) (h : ∀ k, k < 4 → s.testBit (k + 1) = false) : Gv (some (s, vals)) (fun _ => false) y := by
  refine ⟨s, vals, rfl, h1, h2, h, fun r => ?_⟩
  constructor
  · intro hr
    obtain ⟨m1, m2, m3⟩ := partsL_mem usualK s 1 vals r hr
    have m4 : r.1 < 1 + 4 := m2
    have := h (r.1 - 1) (by omega)
    rw [show r.1 - 1 + 1 = r.1 by omega, m3] at this
    cases this
  · rintro ⟨k, -, k2, -⟩
    cases k2
/-- One more part. -/
theorem Gv.add {s : Nat} {old vals' : List Int} {b : Nat → Bool} {y : Int} {k : Nat} (h : Gv (some (s, old)) b y) (hk : k < 4) (h1 : Sb usualK (s ||| 2 ^ (k + 1))) (h2 : vals'.length = fsum usualK (s ||| 2 ^ (k + 1)) 1) (h3 : ∀ r, r ∈ partsL usualK (s ||| 2 ^ (k + 1)) 1 vals' ↔ r ∈ partsL usualK s 1 old ∨ r = (k + 1, valsN y (c4 k))) : Gv (some (s ||| 2 ^ (k + 1), vals')) (fun j => b j || decide (j = k)) y := by
  obtain ⟨s', vals, e, a1, a2, a3, a4⟩ := h
  simp only [Option.some.injEq, Prod.mk.injEq] at e
  obtain ⟨rfl, rfl⟩ := e
  refine ⟨_, _, rfl, h1, h2, fun j hj => ?_, fun r => ?_⟩
  · rw [Nat.testBit_or, a3 j hj, Nat.testBit_two_pow]
    congr 1
    by_cases c : j = k
    · subst c; simp
    · simp [c]; omega
  · rw [h3, a4]
    constructor
    · rintro (⟨j, j1, j2, j3⟩ | e)
      · exact ⟨j, j1, by simp [j2], j3⟩
      · exact ⟨k, hk, by simp, e⟩
    · rintro ⟨j, j1, j2, j3⟩
      by_cases c : j = k
      · subst c
        exact .inr j3
      · simp only [c, decide_false, Bool.or_false] at j2
        exact .inl ⟨j, j1, j2, j3⟩
end Go.Proofs.YtafmiolehlagkaaGreat

/-
  World: WorldOrder: parts that come with the spawn.
-/
namespace Go.Proofs.YtafmiolehlagkaaGreat
open Go.RowKit
set_option maxRecDepth 100000
theorem come_ok : ∀ (L : List Pt) (s : Nat), (∀ p ∈ L, ∃ k, k < 4 ∧ p.1 = ((k + 1 : Nat) : Int) ∧ p.2.2.1 = c4 k ∧ s.testBit (k + 1) = false) → L.Pairwise (fun x y => x.1 < y.1) → comeL usualK s L = 0
  | [], _, _, _ => by unfold comeL; rfl
  | p :: t, s, h, hp => by
    obtain ⟨h1, h2⟩ := List.pairwise_cons.1 hp
    obtain ⟨k, k1, k2, k3, k4⟩ := h p List.mem_cons_self
    have hz : comeS usualK s p.1 p.2.2.1 = 0 := by
      unfold comeS
      rw [k2, Int.toNat_natCast, if_pos ⟨by omega, by show ((k + 1 : Nat) : Int) ≤ 4; omega⟩, k4, if_neg (by simp), if_pos]
      rw [k3, Nat.add_sub_cancel]
      exact c4_fields k1
    unfold comeL
    rw [if_pos hz]
    refine come_ok t _ (fun p' hp' => ?_) h2
    obtain ⟨j, j1, j2, j3, j4⟩ := h p' (List.mem_cons_of_mem _ hp')
    refine ⟨j, j1, j2, j3, ?_⟩
    have := h1 p' hp'
    rw [k2, j2] at this
    rw [k2, Int.toNat_natCast, Nat.testBit_or, j4, Nat.testBit_two_pow, Bool.false_or, decide_eq_false_iff_not]
    omega
/-- Parts for one that comes: the kinds below k that b tells, in their order, made of y. -/
def Lp (B : Nat) (W : World) (v : Value) (L : List Pt) (b : Nat → Bool) (y : Int) (k : Nat) : Prop :=
  W.ownsRow B 32 2 v L.length (pz L) ∧ L.Pairwise (fun x y => x.1 < y.1) ∧ (∀ p ∈ L, ∃ j, j < k ∧ b j = true ∧ p.1 = ((j + 1 : Nat) : Int) ∧ W.ownsRow B 2 1 (ptV p) (c4 j) (zc (valsN y (c4 j)))) ∧ ∀ j, j < k → b j = true → ∃ p ∈ L, p.1 = ((j + 1 : Nat) : Int)
section
variable {B : Nat} {W W' : World} {v : Value} {L : List Pt} {b : Nat → Bool} {y : Int} {k : Nat}
theorem Lp.start (B : Nat) (W : World) (b : Nat → Bool) (y : Int) : Lp B W (.slice none 0 0) [] b y 0 := ⟨World.ownsRow_nil _ _ _ _, List.Pairwise.nil, fun p hp => (by cases hp), fun j hj => absurd hj (by omega)⟩
theorem Lp.skip (h : Lp B W v L b y k) (hb : b k = false) : Lp B W v L b y (k + 1) := by
  obtain ⟨h1, h2, h3, h4⟩ := h
  refine ⟨h1, h2, fun p hp => ?_, fun j hj hbj => ?_⟩
  · obtain ⟨j, j1, j2⟩ := h3 p hp
    exact ⟨j, by omega, j2⟩
  · have : j ≠ k := fun e => by rw [e, hb] at hbj; cases hbj
    exact h4 j (by omega) hbj
theorem Lp.later (h : Lp B W v L b y k) (hb : Below W.heap.size W W') : Lp B W' v L b y k := by
  obtain ⟨h1, h2, h3, h4⟩ := h
  refine ⟨own_later h1 hb, h2, fun p hp => ?_, h4⟩
  obtain ⟨j, j1, j2, j3, j4⟩ := h3 p hp
  exact ⟨j, j1, j2, j3, own_later j4 hb⟩
theorem Lp.short (h : Lp B W v L b y k) (hk : k ≤ 4) : L.length ≤ 4 := by
  obtain ⟨h1, h2, h3, h4⟩ := h
  have : (L.map (fun p => p.1.toNat)).length ≤ 5 := nodup_len 5 _ (List.pairwise_map.2 (h2.imp_of_mem (fun {x y} hx hy hxy => by
    obtain ⟨j, -, -, e, -⟩ := h3 x hx
    obtain ⟨j', -, -, e', -⟩ := h3 y hy
    rw [e, e'] at hxy ⊢
    simp only [Int.toNat_natCast]
    omega))) (fun n hn => by
    obtain ⟨p, hp, rfl⟩ := List.mem_map.1 hn
    obtain ⟨j, j1, -, e, -⟩ := h3 p hp
    rw [e, Int.toNat_natCast]
    omega)
  have h0 : (0 :: L.map (fun p => p.1.toNat)).length ≤ 5 := nodup_len 5 _ (List.nodup_cons.2 ⟨fun hm => by
    obtain ⟨p, hp, e0⟩ := List.mem_map.1 hm
    obtain ⟨j, -, -, e, -⟩ := h3 p hp
    rw [e, Int.toNat_natCast] at e0
    omega, List.pairwise_map.2 (h2.imp_of_mem (fun {x y} hx hy hxy => by
    obtain ⟨j, -, -, e, -⟩ := h3 x hx
    obtain ⟨j', -, -, e', -⟩ := h3 y hy
    rw [e, e'] at hxy ⊢
    simp only [Int.toNat_natCast]
    omega))⟩) (fun n hn => by
    rcases List.mem_cons.1 hn with rfl | hn
    · omega
    · obtain ⟨p, hp, rfl⟩ := List.mem_map.1 hn
      obtain ⟨j, j1, -, e, -⟩ := h3 p hp
      rw [e, Int.toNat_natCast]
      omega)
  simpa using h0
/-- One more part is appended: its values lie in memory of their own. -/
theorem Lp.push {W1 W9 : World} {v9 : Value} {a : Option Addr} {n c : Nat} (h : Lp B W v L b y k) (hb : Below W.heap.size W W1) (hbk : b k = true) (ho : W1.ownsRow B 2 1 (.slice a n c) (c4 k) (zc (valsN y (c4 k)))) (ho9 : W9.ownsRow B 32 2 v9 (L.length + 1) (pz L ++ [.int .i64 ((k + 1 : Nat) : Int), .slice a n c])) (hg : W1.grownBy W9 v.ownBlock) : Lp B W9 v9 (L ++ [(((k + 1 : Nat) : Int), a, n, c)]) b y (k + 1) := by
  obtain ⟨h1, h2, h3, h4⟩ := h.later hb
  refine ⟨?_, ?_, fun p hp => ?_, fun j hj hbj => ?_⟩
  · rw [List.length_append, pz_snoc]
    exact ho9
  · rw [List.pairwise_append]
    refine ⟨h2, by simp, fun x hx z hz => ?_⟩
    rw [List.mem_singleton.1 hz]
    obtain ⟨j, j1, -, e, -⟩ := h3 x hx
    rw [e]
    dsimp only
    omega
  · rcases List.mem_append.1 hp with hp | hp
    · obtain ⟨j, j1, j2, j3, j4⟩ := h3 p hp
      exact ⟨j, by omega, j2, j3, own_kept j4 hg (fun q e e2 => own_kinds j4 h1 (by decide) e e2)⟩
    · rw [List.mem_singleton.1 hp]
      exact ⟨k, by omega, hbk, rfl, own_kept ho hg (fun q e e2 => own_kinds ho h1 (by decide) e e2)⟩
  · by_cases c : j = k
    · subst c
      exact ⟨_, List.mem_append_right _ List.mem_cons_self, rfl⟩
    · obtain ⟨p, hp, e⟩ := h4 j (by omega) hbj
      exact ⟨p, List.mem_append_left _ hp, e⟩
end
section
variable {w W : World} {ga gb M B : Nat} {oa ob : Nat → Nat} {v vl : Value} {A : List (Nat × Nat)} {gs fr gs' fr' : List Nat} {Ca Cb : Co} {L : List Pt} {b : Nat → Bool} {y : Int}
/-- The first world gets one with parts. -/
theorem So.spawnA (h : So w ga gb W oa ob v A M gs fr gs' fr' Ca Cb) (hM : M ≤ 800000) (hroom : fr ≠ [] ∨ gs.length < 200) (hl : Lp B W vl L b y 4) (hB : ∀ k, B ≤ k → k < W.heap.size → oa k = 0) :
    Calls Tryz.prog 24 #[.pointer (some ⟨ga, 0, none⟩), vl] W fun e w' => e = .returned (.tuple #[.agg #[.int .i64 ((takeE gs fr).1 : Int), .int .i64 ((takeE gs fr).2 : Int)], .int .i64 0]) ∧ ∃ oa' ob' o, So w ga gb w' oa' ob' v A (M + 3) (takeG gs fr) (takeF fr) gs' fr' (fun x => if x = (((takeE gs fr).1 : Int), ((takeE gs fr).2 : Int)) then some o else Ca x) Cb ∧ Gv (some o) b y := by
  obtain ⟨h1, h2, h3, h4⟩ := hl
  have hV : ∀ p ∈ L, ∃ j, j < 4 ∧ b j = true ∧ p.1 = ((j + 1 : Nat) : Int) ∧ p.2.2.1 = c4 j ∧ valsN y (c4 (p.1.toNat - 1)) = valsN y (c4 j) ∧ W.ownsRow B 2 1 (ptV p) (c4 j) (zc (valsN y (c4 j))) := fun p hp => by
    obtain ⟨j, j1, j2, j3, j4⟩ := h3 p hp
    refine ⟨j, j1, j2, j3, ?_, by rw [j3, Int.toNat_natCast, Nat.add_sub_cancel], j4⟩
    obtain ⟨x, z, e⟩ := own_len j4
    simp only [ptV, Value.slice.injEq] at e
    exact e.2.1
  have hcome : comeL usualK 0 L = 0 := come_ok L 0 (fun p hp => by
    obtain ⟨j, j1, -, j3, j4, -⟩ := hV p hp
    exact ⟨j, j1, j3, j4, by simp⟩) h2
  refine (h.1.spawn (by omega) hroom vl L (fun p => valsN y (c4 (p.1.toNat - 1))) (Rp.own h1) hcome (fun k e => ⟨hB k (h1.lt k e).1 (h1.lt k e).2, (h1.lt k e).2⟩) (fun p hp => ?_) (fun p hp k e => ?_) (fun p _ => valsN_fit _ _)).mono ?_
  · obtain ⟨j, j1, -, j3, -, j5, j6⟩ := hV p hp
    rw [j5]
    refine ⟨Iz.own (l := valsN y (c4 j)) (by rw [valsN_len]; exact j6), fun e => ?_⟩
    rcases j6.2 with ⟨e', -⟩ | ⟨g, c', cur, e', -⟩
    · simp only [ptV, Value.slice.injEq] at e'
      exact Prod.ext e'.2.1 e'.2.2
    · simp only [ptV, Value.slice.injEq] at e'
      rw [e] at e'
      cases e'.1
  · obtain ⟨j, j1, -, j3, -, j5, j6⟩ := hV p hp
    exact ⟨hB k (j6.lt k e).1 (j6.lt k e).2, (j6.lt k e).2⟩
  · rintro e w' ⟨rfl, vals, own', r1, r2, r3, r4⟩
    have hr : ∀ r, r ∈ partsL usualK (setOf L) 1 vals ↔ ∃ k, k < 4 ∧ b k = true ∧ r = (k + 1, valsN y (c4 k)) := fun r => by
      rw [r4]
      constructor
      · rintro ⟨p, hp, rfl⟩
        obtain ⟨j, j1, j2, j3, -, j5, -⟩ := hV p hp
        exact ⟨j, j1, j2, by rw [j5, j3, Int.toNat_natCast]⟩
      · rintro ⟨k, k1, k2, rfl⟩
        obtain ⟨p, hp, e⟩ := h4 k k1 k2
        exact ⟨p, hp, by rw [e, Int.toNat_natCast, Nat.add_sub_cancel]⟩
    refine ⟨rfl, own', _, (setOf L, vals), h.turnA r2 r1 (by omega), setOf L, vals, rfl, come_sb hcome, r3, fun k hk => ?_, hr⟩
    cases hb : b k with
    | true =>
      exact (partsL_mem usualK (setOf L) 1 vals _ ((hr (k + 1, valsN y (c4 k))).2 ⟨k, hk, hb, rfl⟩)).2.2
    | false =>
      cases ht : (setOf L).testBit (k + 1) with
      | false => rfl
      | true =>
        obtain ⟨r, hr1, hr2⟩ := partsL_all usualK (setOf L) 1 vals (k + 1) (by omega) (by show k + 1 < 1 + 4; omega) ht
        obtain ⟨j, j1, j2, j3⟩ := (hr r).1 hr1
        rw [j3] at hr2
        have : j = k := by simpa using hr2
        subst this
        rw [hb] at j2
        cases j2
/-- The second world gets one with nothing. -/
theorem So.spawnB (h : So w ga gb W oa ob v A M gs fr gs' fr' Ca Cb) (hM : M ≤ 800000) (hroom : fr' ≠ [] ∨ gs'.length < 200) :
    Calls Tryz.prog 24 #[.pointer (some ⟨gb, 0, none⟩), .slice none 0 0] W fun e w' => e = .returned (.tuple #[.agg #[.int .i64 ((takeE gs' fr').1 : Int), .int .i64 ((takeE gs' fr').2 : Int)], .int .i64 0]) ∧ ∃ oa' ob' o, So w ga gb w' oa' ob' v A (M + 3) gs fr (takeG gs' fr') (takeF fr') Ca (fun x => if x = (((takeE gs' fr').1 : Int), ((takeE gs' fr').2 : Int)) then some o else Cb x) ∧ Wk ob ob' W w' := by
  refine (h.2.1.spawn (by omega) hroom (.slice none 0 0) [] (fun _ => []) (.inl ⟨rfl, rfl⟩) (by unfold comeL; rfl) (fun k e => by cases e) (fun p hp => by cases hp) (fun p hp => by cases hp) (fun p hp => by cases hp)).mono ?_
  rintro e w' ⟨rfl, vals, own', r1, r2, -⟩
  exact ⟨rfl, _, own', _, h.turnB r2 r1 (by omega), r2⟩
end
end Go.Proofs.YtafmiolehlagkaaGreat

/-
  World: WorldOrder's walk.
-/
namespace Go.Proofs.YtafmiolehlagkaaGreat
open Go.RowKit
set_option maxRecDepth 100000
def ent (p : Nat × Nat) : Int × Int := ((p.1 : Int), (p.2 : Int))
theorem ent_inj {p q : Nat × Nat} (h : ent p = ent q) : p = q := by
  simp only [ent, Prod.mk.injEq] at h
  exact Prod.ext (by omega) (by omega)
def bitS (S : List Int) (j k : Nat) : Bool := (pk (S.getD j 0) 16).testBit k
theorem bit_eq (s k : Nat) (hs : s < 8192) : (bits BinOp.and IntKind.i64 ((s : Int) / 2 ^ k) 1 == 1) = s.testBit k := by
  have h1 : ((s : Int) / 2 ^ k) = ((s / 2 ^ k : Nat) : Int) := by
    rw [Int.natCast_ediv]
    congr 1
  have hlt : s / 2 ^ k < 9223372036854775808 := Nat.lt_of_le_of_lt (Nat.div_le_self _ _) (by omega)
  have h2 := i64_and_nat (s / 2 ^ k) 1 hlt (by omega)
  rw [h1]
  rw [show ((1 : Nat) : Int) = 1 from rfl] at h2
  rw [h2, Nat.testBit, Nat.shiftRight_eq_div_pow, Nat.and_comm]
  rcases Nat.mod_two_eq_zero_or_one (s / 2 ^ k) with h | h
  · simp [Nat.one_and_eq_mod_two, h]
  · simp [Nat.one_and_eq_mod_two, h]
/-- Behind i spawns. -/
def P1 (S : List Int) (i : Nat) (gs : List Nat) (A : List (Nat × Nat)) (Ca Cb : Co) : Prop :=
  gs.length = i ∧ A.length = i ∧ A.Nodup ∧ (∀ x, (Ca x).isSome = true ↔ ∃ p ∈ A, x = ent p) ∧ (∀ x, (Cb x).isSome = true ↔ ∃ p ∈ A, x = ent p) ∧ ∀ j (hj : j < A.length), Gv (Ca (ent A[j])) (bitS S j) (j : Int)
theorem P1.start (S : List Int) : P1 S 0 [] [] (fun _ => none) (fun _ => none) :=
  ⟨rfl, rfl, List.nodup_nil, fun x => ⟨fun h => (by cases h), fun ⟨p, hp, _⟩ => (by cases hp)⟩, fun x => ⟨fun h => (by cases h), fun ⟨p, hp, _⟩ => (by cases hp)⟩, fun j hj => absurd hj (by simp)⟩
theorem dom_push {A : List (Nat × Nat)} {C : Co} {p : Nat × Nat} {o : Nat × List Int} (h : ∀ x, (C x).isSome = true ↔ ∃ q ∈ A, x = ent q) (x : Int × Int) : ((if x = ent p then some o else C x) : Option (Nat × List Int)).isSome = true ↔ ∃ q ∈ A ++ [p], x = ent q := by
  by_cases c : x = ent p
  · rw [if_pos c]
    exact ⟨fun _ => ⟨p, List.mem_append_right _ List.mem_cons_self, c⟩, fun _ => rfl⟩
  · rw [if_neg c, h]
    constructor
    · rintro ⟨q, hq, e⟩
      exact ⟨q, List.mem_append_left _ hq, e⟩
    · rintro ⟨q, hq, e⟩
      rcases List.mem_append.1 hq with hq | hq
      · exact ⟨q, hq, e⟩
      · rw [List.mem_singleton.1 hq] at e
        exact absurd e c
theorem P1.step {S : List Int} {i : Nat} {gs : List Nat} {A : List (Nat × Nat)} {Ca Cb : Co} (h : P1 S i gs A Ca Cb) (hlv : Lv gs [] Ca) (hok : Ok 200 gs []) {o o' : Nat × List Int} (hg : Gv (some o) (bitS S i) (i : Int)) :
    P1 S (i + 1) (takeG gs []) (A ++ [takeE gs []]) (fun x => if x = ent (takeE gs []) then some o else Ca x) (fun x => if x = ent (takeE gs []) then some o' else Cb x) := by
  obtain ⟨h1, h2, h3, h4, h5, h6⟩ := h
  have hn : takeE gs [] ∉ A := fun hm => by
    have := take_not hok
    rw [hlv] at this
    have h9 := (h4 (ent (takeE gs []))).2 ⟨_, hm, rfl⟩
    unfold ent at h9
    rw [this] at h9
    cases h9
  refine ⟨by simp [takeG, h1], by simp [h2], ?_, dom_push h4, dom_push h5, fun j hj => ?_⟩
  · rw [List.nodup_append]
    refine ⟨h3, by simp, fun x hx y hy e => ?_⟩
    rw [List.mem_singleton.1 hy] at e
    exact hn (e ▸ hx)
  · by_cases c : j < A.length
    · rw [List.getElem_append_left c]
      dsimp only
      rw [if_neg]
      · exact h6 j c
      · intro e
        exact hn (ent_inj e ▸ List.getElem_mem c)
    · have : j = A.length := by simp at hj; omega
      subst this
      rw [List.getElem_append_right (Nat.le_refl _)]
      simp only [Nat.sub_self, List.getElem_cons_zero, if_true]
      rw [h2]
      exact hg
def St1 (w : World) (ga gb : Nat) (S : List Int) (W : World) (i : Nat) (v : Value) : Prop :=
  ∃ oa ob gs A Ca Cb, So w ga gb W oa ob v A (6 * i) gs [] gs [] Ca Cb ∧ P1 S i gs A Ca Cb
theorem St1.below {w W : World} {ga gb i : Nat} {S : List Int} {v : Value} (h : St1 w ga gb S W i v) : Below w.heap.size w W := by
  obtain ⟨oa, ob, gs, A, Ca, Cb, h, -⟩ := h
  exact h.2.2.2.2.2.1.1
theorem St1.cap {w W : World} {ga gb i n c : Nat} {S : List Int} {a : Option Addr} (h : St1 w ga gb S W i (.slice a n c)) : n = i ∧ i ≤ c ∧ c ≤ 9223372036854775807 := by
  obtain ⟨oa, ob, gs, A, Ca, Cb, h, hp⟩ := h
  obtain ⟨x, z, e⟩ := own_len h.2.2.2.1
  simp only [Value.slice.injEq] at e
  obtain ⟨rfl, rfl, rfl⟩ := e
  have := own_cap h.2.2.2.1
  have := hp.2.1
  refine ⟨by omega, ?_, ?_⟩ <;> omega
end Go.Proofs.YtafmiolehlagkaaGreat

/-
  World: WorldOrder: kinds come and go between.
-/
namespace Go.Proofs.YtafmiolehlagkaaGreat
open Go.RowKit
set_option maxRecDepth 100000
/-- Behind t deeds: i were spawned; m are in the list. -/
def St2 (w : World) (ga gb : Nat) (S : List Int) (W : World) (i m : Nat) (v : Value) (t : Nat) : Prop :=
  ∃ oa ob gs gs' fr' A Ca Cb, So w ga gb W oa ob v A (240 + 4 * t) gs [] gs' fr' Ca Cb ∧ A.length = m ∧ m ≤ 40 ∧ (∀ p ∈ A, (Cb (ent p)).isSome = true) ∧ (0 < i → m = i ∧ gs' = gs ∧ fr' = [] ∧ P1 S i gs A Ca Cb) ∧ (i = 0 → gs = [] ∧ (Ca = fun _ => none) ∧ (m = 0 → v = .slice none 0 0 ∧ gs' = []))
theorem So.up {w W : World} {ga gb M M' : Nat} {oa ob : Nat → Nat} {v : Value} {A : List (Nat × Nat)} {gs fr gs' fr' : List Nat} {Ca Cb : Co} (h : So w ga gb W oa ob v A M gs fr gs' fr' Ca Cb) (hM : M ≤ M') : So w ga gb W oa ob v A M' gs fr gs' fr' Ca Cb := ⟨h.1.up hM, h.2.1.up hM, h.2.2⟩
section
variable {w W W' : World} {ga gb i m t : Nat} {S : List Int} {v : Value}
theorem St2.below (h : St2 w ga gb S W i m v t) : Below w.heap.size w W := by
  obtain ⟨oa, ob, gs, gs', fr', A, Ca, Cb, h, -⟩ := h
  exact h.2.2.2.2.2.1.1
theorem St2.later (h : St2 w ga gb S W i m v t) (hb : Below W.heap.size W W') : St2 w ga gb S W' i m v t := by
  obtain ⟨oa, ob, gs, gs', fr', A, Ca, Cb, h1, h2⟩ := h
  exact ⟨_, _, gs, gs', fr', A, Ca, Cb, h1.later hb, h2⟩
theorem St2.cap {a : Option Addr} {n c : Nat} (h : St2 w ga gb S W i m (.slice a n c) t) : n = m ∧ m ≤ 40 ∧ m ≤ c ∧ c ≤ 9223372036854775807 := by
  obtain ⟨oa, ob, gs, gs', fr', A, Ca, Cb, h1, h2, h3, -⟩ := h
  obtain ⟨x, z, e⟩ := own_len h1.2.2.2.1
  simp only [Value.slice.injEq] at e
  obtain ⟨rfl, rfl, rfl⟩ := e
  have := own_cap h1.2.2.2.1
  refine ⟨by omega, h3, ?_, ?_⟩ <;> omega
theorem St2.start {c : Nat} {a : Option Addr} (h : St1 w ga gb S W i (.slice a i c)) (hi : i ≤ 40) (h0 : i = 0 → a = none ∧ c = 0) : St2 w ga gb S W i i (.slice a i c) 0 := by
  obtain ⟨oa, ob, gs, A, Ca, Cb, h1, h2⟩ := h
  refine ⟨oa, ob, gs, gs, [], A, Ca, Cb, h1.up (by omega), h2.2.1, hi, fun p hp => (h2.2.2.2.2.1 _).2 ⟨p, hp, rfl⟩, fun _ => ⟨rfl, rfl, rfl, h2⟩, fun e => ?_⟩
  subst e
  obtain ⟨rfl, rfl⟩ := h0 rfl
  have hA : A = [] := List.eq_nil_of_length_eq_zero h2.2.1
  refine ⟨List.eq_nil_of_length_eq_zero h2.1, funext fun x => ?_, fun _ => ⟨rfl, List.eq_nil_of_length_eq_zero h2.1⟩⟩
  cases hx : Ca x with
  | none => rfl
  | some p =>
    obtain ⟨q, hq, -⟩ := (h2.2.2.2.1 x).1 (by rw [hx]; rfl)
    rw [hA] at hq
    cases hq
theorem p1_dom {S : List Int} {i : Nat} {gs : List Nat} {A : List (Nat × Nat)} {Ca Cb C' : Co} (h : P1 S i gs A Ca Cb) (hd : ∀ x, (C' x).isSome = (Cb x).isSome) : P1 S i gs A Ca C' :=
  ⟨h.1, h.2.1, h.2.2.1, h.2.2.2.1, fun x => by rw [hd x]; exact h.2.2.2.2.1 x, h.2.2.2.2.2⟩
theorem St2.deed (h : St2 w ga gb S W i m v t) (ht : t ≤ 200) (kk : Nat) (hk : kk < 3) (who what y : Int) (h3 : Bd who) (h5 : Bd what) :
    Calls Tryz.prog 21 #[.pointer (some ⟨gb, 0, none⟩), v, .agg #[.int .i64 (2 + (kk : Int)), .int .i64 who, .int .i64 what, .int .i64 y]] W fun e w' => ∃ m' v' z, e = .returned (.tuple #[v', .int .i64 z]) ∧ St2 w ga gb S w' i m' v' (t + 1) := by
  obtain ⟨oa, ob, gs, gs', fr', A, Ca, Cb, h1, h2, hm, hal, hi1, hi0⟩ := h
  by_cases c : 0 < A.length
  · have key : ∀ (w' : World) (z : Int), Deeded W ob gb (240 + 4 * t) gs' fr' Cb w' → ∃ m' v' z', (Ending.returned (.tuple #[v, .int .i64 z]) : Ending) = .returned (.tuple #[v', .int .i64 z']) ∧ St2 w ga gb S w' i m' v' (t + 1) := by
      rintro w' z ⟨own', C', r1, r2, r3⟩
      refine ⟨m, v, z, rfl, _, own', gs, gs', fr', A, Ca, C', h1.turnB r2 (r1.up (by omega)) (by omega), h2, hm, fun p hp => by rw [r3]; exact hal p hp, fun h0 => ?_, fun h0 => ?_⟩
      · obtain ⟨q1, q2, q3, q4⟩ := hi1 h0
        exact ⟨q1, q2, q3, p1_dom q4 r3⟩
      · obtain ⟨q1, q2, -⟩ := hi0 h0
        exact ⟨q1, q2, fun e => by omega⟩
    have hA0 : ∀ k, v.ownBlock = some k → ob k = 0 := fun k e => (h1.2.2.2.2.1 k e).2
    obtain rfl | rfl | rfl : kk = 0 ∨ kk = 1 ∨ kk = 2 := by omega
    · refine (does2 h1.2.1 (by omega) A _ v h1.2.2.2.1 (by omega) c hA0 hal who what y h3.1 h3.2 h5.1 h5.2).mono ?_
      rintro e w' ⟨z, rfl, hd⟩
      exact key w' z hd
    · refine (does3 h1.2.1 (by omega) A _ v h1.2.2.2.1 (by omega) c hA0 hal who what y h3.1 h3.2 h5.1 h5.2).mono ?_
      rintro e w' ⟨z, rfl, hd⟩
      exact key w' z hd
    · refine (does4 h1.2.1 (by omega) A _ v h1.2.2.2.1 (by omega) c hA0 hal who what y h3.1 h3.2 h5.1 h5.2).mono ?_
      rintro e w' ⟨z, rfl, hd⟩
      exact key w' z hd
  · have hm0 : m = 0 := by omega
    have hii : i = 0 := by
      by_cases c2 : 0 < i
      · have := (hi1 c2).1
        omega
      · omega
    obtain ⟨q1, q2, q3⟩ := hi0 hii
    obtain ⟨rfl, rfl⟩ := q3 hm0
    have hx : pk (2 + (kk : Int)) 5 ≠ 0 := by
      obtain rfl | rfl | rfl : kk = 0 ∨ kk = 1 ∨ kk = 2 := by omega
      · decide
      · decide
      · decide
    refine (does_first h1.2.1 (by omega) (.inr (by simp)) (2 + (kk : Int)) who what y (by omega) (by omega) h5.1 h5.2 hx).mono ?_
    rintro e w' ⟨v', rfl, p, own', gs1, fr1, C', r1, r2, r3, r4, r5⟩
    have hT := h1.turnB r2 (M' := 240 + 4 * (t + 1)) (r1.up (by omega)) (by omega)
    obtain ⟨a1, a2, a3, a4, a5, a6, a7⟩ := hT
    refine ⟨1, v', 0, rfl, _, own', gs, gs1, fr1, [p], Ca, C', ⟨a1, a2, a3, own_lower r3 h1.2.2.2.2.2.1.1.size, fun k e => ⟨rel_new (r3.lt k e).1, r4 k e⟩, a6, a7⟩, rfl, by omega, fun q hq => ?_, fun h0 => by omega, fun _ => ⟨q1, q2, fun e => by omega⟩⟩
    rw [List.mem_singleton.1 hq]
    exact r5
end
end Go.Proofs.YtafmiolehlagkaaGreat

/-
  World: WorldOrder: all of it is taken away, and given anew.
-/
namespace Go.Proofs.YtafmiolehlagkaaGreat
open Go.RowKit
set_option maxRecDepth 100000
theorem lin4 {k k' L i j : Nat} (hk : k < 4) (hk' : k' < 4) (hi : i < L) (hj : j < L) (h : k' * L + j < k * L + i + 1) : k' * L + j < k * L + i ∨ (k' = k ∧ j = i) := by
  obtain rfl | rfl | rfl | rfl : k = 0 ∨ k = 1 ∨ k = 2 ∨ k = 3 := by omega
  all_goals
    obtain rfl | rfl | rfl | rfl : k' = 0 ∨ k' = 1 ∨ k' = 2 ∨ k' = 3 := by omega
    all_goals omega
/-- Which kinds were given anew, of the j-th. -/
def dn (L r j n k : Nat) : Bool := (decide (4 * L + j < n) && decide (r % 4 = k)) || (decide (5 * L + j < n) && decide ((1 + r) % 4 = k)) || (decide (6 * L + j < n) && decide ((2 + r) % 4 = k)) || (decide (7 * L + j < n) && decide ((3 + r) % 4 = k))
theorem dn_step {L r j i m k : Nat} (hm : m < 4) (hi : i < L) (hj : j < L) : dn L r j ((4 + m) * L + i + 1) k = (dn L r j ((4 + m) * L + i) k || (decide (j = i) && decide ((m + r) % 4 = k))) := by
  rw [Bool.eq_iff_iff]
  obtain rfl | rfl | rfl | rfl : m = 0 ∨ m = 1 ∨ m = 2 ∨ m = 3 := by omega
  all_goals
    simp only [dn, Bool.or_eq_true, Bool.and_eq_true, decide_eq_true_eq, Nat.zero_add, Nat.reduceAdd]
    omega
theorem dn_not {L r i m : Nat} (hm : m < 4) (_hi : i < L) : dn L r i ((4 + m) * L + i) ((m + r) % 4) = false := by
  rw [← Bool.not_eq_true]
  obtain rfl | rfl | rfl | rfl : m = 0 ∨ m = 1 ∨ m = 2 ∨ m = 3 := by omega
  all_goals
    simp only [dn, Bool.or_eq_true, Bool.and_eq_true, decide_eq_true_eq, Nat.zero_add, Nat.reduceAdd]
    omega
theorem dn_zero {L r j k : Nat} : dn L r j (4 * L) k = false := by
  rw [← Bool.not_eq_true]
  simp only [dn, Bool.or_eq_true, Bool.and_eq_true, decide_eq_true_eq]
  omega
theorem dn_all {L r j k : Nat} (hj : j < L) (hk : k < 4) : dn L r j (8 * L) k = true := by
  simp only [dn, Bool.or_eq_true, Bool.and_eq_true, decide_eq_true_eq]
  omega
/-- Behind n rounds, of those that are L. -/
def InvA (L n : Nat) (A : List (Nat × Nat)) (Cb : Co) : Prop := n ≤ 4 * L ∧ ∀ j (_ : j < A.length) k, k < 4 → k * L + j < n → ∀ s vals, Cb (ent A[j]) = some (s, vals) → s.testBit (k + 1) = false
def InvB (S : List Int) (ρ : Nat → Nat) (L n : Nat) (A : List (Nat × Nat)) (Cb : Co) : Prop := 4 * L ≤ n ∧ ∀ j (_ : j < A.length), Gv (Cb (ent A[j])) (fun k => bitS S j k && dn L (ρ j) j n k) (j : Int)
def St3 (w : World) (ga gb : Nat) (S : List Int) (ρ : Nat → Nat) (W : World) (L : Nat) (v : Value) (n : Nat) : Prop :=
  ∃ oa ob gs A Ca Cb, So w ga gb W oa ob v A (1040 + 4 * n) gs [] gs [] Ca Cb ∧ P1 S L gs A Ca Cb ∧ (InvA L n A Cb ∨ InvB S ρ L n A Cb)
section
variable {w W W' : World} {ga gb L n t : Nat} {S : List Int} {ρ : Nat → Nat} {v : Value}
theorem St3.below (h : St3 w ga gb S ρ W L v n) : Below w.heap.size w W := by
  obtain ⟨oa, ob, gs, A, Ca, Cb, h, -⟩ := h
  exact h.2.2.2.2.2.1.1
theorem St3.later (h : St3 w ga gb S ρ W L v n) (hb : Below W.heap.size W W') : St3 w ga gb S ρ W' L v n := by
  obtain ⟨oa, ob, gs, A, Ca, Cb, h1, h2⟩ := h
  exact ⟨_, _, gs, A, Ca, Cb, h1.later hb, h2⟩
theorem St3.start (h : St2 w ga gb S W L L v t) (ht : t ≤ 200) (hL : 0 < L) : St3 w ga gb S ρ W L v 0 := by
  obtain ⟨oa, ob, gs, gs', fr', A, Ca, Cb, h1, h2, h3, h4, h5, h6⟩ := h
  obtain ⟨-, rfl, rfl, h9⟩ := h5 hL
  exact ⟨oa, ob, gs', A, Ca, Cb, h1.up (by omega), h9, .inl ⟨by omega, fun j _ k _ hx => absurd hx (by omega)⟩⟩
theorem Wn.remove_bit {own : Nat → Nat} {gw N : Nat} {gs fr : List Nat} {C : Co} (h : Wn w own gw N usualK gs fr C) (hN : N ≤ 800000) (a b : Int) (s : Nat) (old : List Int) (hc : C (a, b) = some (s, old)) (kk : Nat) (hk : kk < 4) :
    Calls Tryz.prog 26 #[.pointer (some ⟨gw, 0, none⟩), .agg #[.int .i64 a, .int .i64 b], .int .i64 ((kk : Int) + 1)] w fun e w' => (∃ z, e = .returned (.int .i64 z)) ∧ ∃ own' p, Wn w' own' gw (N + 4) usualK gs fr (fun y => if y = (a, b) then some p else C y) ∧ Wk own own' w w' ∧ ∀ j, p.1.testBit j = (s.testBit j && !(decide (j = kk + 1))) := by
  have e1 : ((kk + 1 : Nat) : Int) = (kk : Int) + 1 := by omega
  by_cases hbit : s.testBit (kk + 1) = true
  · have := h.remove hN a b (kk + 1) s old hc (by omega) (by show kk + 1 ≤ 4; omega) hbit
    rw [e1] at this
    refine this.mono ?_
    rintro e w' ⟨rfl, vals', own', r1, r2, -⟩
    refine ⟨⟨0, rfl⟩, own', _, r1, r2, fun j => ?_⟩
    rw [Nat.testBit_xor, Nat.testBit_two_pow]
    by_cases c : j = kk + 1
    · subst c
      simp [hbit]
    · have c' : ¬ kk + 1 = j := fun e => c e.symm
      simp [c, c']
  · obtain ⟨hib, hl⟩ := h.inb hc
    have h0 := h
    obtain ⟨vk, gp, gm, gt, q, T, h1, h2, h3, h4, h5, h6⟩ := h
    refine (remove_err h1 a b ((kk : Int) + 1) hib h4.2.1 s (h2.1 _ s (fC_some hc)).1 (fun _ => fC_some hc) 62 ?_ (by omega)).mono ?_
    · unfold hasE
      rw [if_pos hl, if_pos (⟨by omega, by show (kk : Int) + 1 ≤ 4; omega⟩), if_neg]
      rw [← e1, Int.toNat_natCast]
      exact hbit
    · rintro e w' ⟨rfl, hb⟩
      refine ⟨⟨_, rfl⟩, rel own w 0, (s, old), ?_, Wk.later hb, fun j => ?_⟩
      · have e9 : (fun y => if y = (a, b) then some (s, old) else C y) = C := by
          funext y
          by_cases c : y = (a, b)
          · rw [if_pos c, c, hc]
          · rw [if_neg c]
        rw [e9]
        exact (h0.later hb).up (by omega)
      · by_cases c : j = kk + 1
        · subst c
          simpa using hbit
        · simp [c]
/-- All is taken away. -/
theorem inv_switch {own : Nat → Nat} {gw N : Nat} {gs fr : List Nat} {A : List (Nat × Nat)} {Ca Cb : Co} (hw : Wn w own gw N usualK gs fr Cb) (hp : P1 S L gs A Ca Cb) (hn : 4 * L ≤ n) (h : InvA L n A Cb ∨ InvB S ρ L n A Cb) : InvB S ρ L n A Cb := by
  rcases h with ⟨h1, h2⟩ | h
  · refine ⟨hn, fun j hj => ?_⟩
    have hal : (Cb (ent A[j])).isSome = true := (hp.2.2.2.2.1 _).2 ⟨_, List.getElem_mem hj, rfl⟩
    obtain ⟨⟨s, vals⟩, hc⟩ := Option.isSome_iff_exists.1 hal
    obtain ⟨b1, b2⟩ := hw.sb hc
    have hlen := hp.2.1
    rw [hc]
    refine (Gv.none b1 b2 (fun k hk => h2 j hj k hk ?_ s vals hc)).congr (fun k _ => ?_)
    · obtain rfl | rfl | rfl | rfl : k = 0 ∨ k = 1 ∨ k = 2 ∨ k = 3 := by omega
      all_goals omega
    · have : n = 4 * L := by omega
      rw [this, dn_zero, Bool.and_false]
  · exact h
/-- What is in the list. -/
theorem St3.at {a : Option Addr} {c : Nat} (h : St3 w ga gb S ρ W L (.slice a L c) n) (hL4 : L ≤ 40) (hn8 : n < 8 * L) (i : Nat) (hi : i < L) : ∃ g pa pb, a = some ⟨g, 0, none⟩ ∧ W.cell? ⟨g, i * 2, none⟩ = some (.int .i64 ((pa : Nat) : Int)) ∧ W.cell? ⟨g, i * 2 + 1, none⟩ = some (.int .i64 ((pb : Nat) : Int)) ∧
    (n < 4 * L → ∀ k, k < 4 → n = k * L + i → Calls Tryz.prog 26 #[.pointer (some ⟨gb, 0, none⟩), .agg #[.int .i64 (pa : Int), .int .i64 (pb : Int)], .int .i64 ((k : Int) + 1)] W fun e w' => (∃ z, e = .returned (.int .i64 z)) ∧ St3 w ga gb S ρ w' L (.slice a L c) (n + 1)) ∧
    (∀ m, m < 4 → n = (4 + m) * L + i → bitS S i ((m + ρ i) % 4) = false → St3 w ga gb S ρ W L (.slice a L c) (n + 1)) ∧
    (∀ m, m < 4 → n = (4 + m) * L + i → bitS S i ((m + ρ i) % 4) = true → ∀ (W0 W1 : World) (av : Option Addr) (nv cv : Nat), Below W.heap.size W W0 → Below W0.heap.size W0 W1 → W1.ownsRow W0.heap.size 2 1 (.slice av nv cv) (c4 ((m + ρ i) % 4)) (zc (valsN (i : Int) (c4 ((m + ρ i) % 4)))) → Calls Tryz.prog 27 #[.pointer (some ⟨gb, 0, none⟩), .agg #[.int .i64 (pa : Int), .int .i64 (pb : Int)], .agg #[.int .i64 ((((m + ρ i) % 4 : Nat) : Int) + 1), .slice av nv cv]] W1 fun e w' => e = .returned (.int .i64 0) ∧ St3 w ga gb S ρ w' L (.slice a L c) (n + 1) ∧ w'.cell? ⟨g, i * 2, none⟩ = some (.int .i64 ((pa : Nat) : Int)) ∧ w'.cell? ⟨g, i * 2 + 1, none⟩ = some (.int .i64 ((pb : Nat) : Int))) := by
  obtain ⟨oa, ob, gs, A, Ca, Cb, h1, h2, h3⟩ := h
  have hlen := h2.2.1
  have hown := h1.2.2.2.1
  rw [hlen] at hown
  obtain ⟨g, c', e, -, -⟩ := own_form hown (by omega)
  simp only [Value.slice.injEq] at e
  obtain ⟨rfl, -, rfl⟩ := e
  obtain ⟨y1, y2⟩ := i_own_ent hown i (by omega)
  have hi' : i < A.length := by omega
  have hal : (Cb (ent A[i])).isSome = true := (h2.2.2.2.2.1 _).2 ⟨_, List.getElem_mem hi', rfl⟩
  obtain ⟨⟨s, old⟩, hc⟩ := Option.isSome_iff_exists.1 hal
  have hne : ∀ j (hj : j < A.length), j ≠ i → ent A[j] ≠ ent A[i] := fun j hj hji e => hji ((List.getElem_inj h2.2.2.1).1 (ent_inj e))
  refine ⟨g, _, _, rfl, y1, y2, fun hn k hk hnk => ?_, fun m hm hnm hb => ?_, fun m hm hnm hb W0 W1 av nv cv hW0 hW1 ho => ?_⟩
  · refine (h1.2.1.remove_bit (by omega) _ _ s old hc k hk).mono ?_
    rintro e w' ⟨hz, own', p, r1, r2, r3⟩
    refine ⟨hz, _, own', gs, A, Ca, _, h1.turnB r2 (r1.up (by omega)) (by omega), p1_dom h2 (dom_same hc), .inl ⟨by omega, fun j hj k' hk' hlt s' vals' hc' => ?_⟩⟩
    have hA : InvA L n A Cb := by
      rcases h3 with h3 | h3
      · exact h3
      · have := h3.1
        omega
    dsimp only at hc'
    by_cases cj : j = i
    · subst cj
      rw [show ent A[j] = ((A[j].1 : Int), (A[j].2 : Int)) from rfl, if_pos rfl] at hc'
      obtain rfl := Option.some.inj hc'
      rw [r3]
      rcases lin4 hk hk' hi (show j < L by omega) (by omega) with c | ⟨c, -⟩
      · rw [hA.2 j hj k' hk' (by omega) s old hc, Bool.false_and]
      · subst c
        simp
    · rw [if_neg (show ¬ ent A[j] = ((A[i].1 : Int), (A[i].2 : Int)) from hne j hj cj)] at hc'
      rcases lin4 hk hk' hi (show j < L by omega) (by omega) with c | ⟨-, c⟩
      · exact hA.2 j hj k' hk' (by omega) s' vals' hc'
      · exact absurd c cj
  · have hB := inv_switch (ρ := ρ) h1.2.1 h2 (by rw [hnm, Nat.add_mul]; omega) h3
    refine ⟨oa, ob, gs, A, Ca, Cb, h1.up (by omega), h2, .inr ⟨by have := hB.1; omega, fun j hj => (hB.2 j hj).congr (fun k hk => ?_)⟩⟩
    rw [hnm, dn_step hm hi (by omega)]
    by_cases cj : j = i
    · subst cj
      by_cases ck : (m + ρ j) % 4 = k
      · rw [← ck, hb, Bool.false_and, Bool.false_and]
      · simp [ck]
    · simp [cj]
  · have hWW := below_on hW0 hW1
    have hS1 := h1.later hWW
    have hB := inv_switch (ρ := ρ) h1.2.1 h2 (by rw [hnm, Nat.add_mul]; omega) h3
    obtain ⟨k, hk⟩ : ∃ k, k = (m + ρ i) % 4 := ⟨_, rfl⟩
    have hk4 : k < 4 := by omega
    have hG := hB.2 i hi'
    rw [hc] at hG
    have hn0 : nv = c4 k := by
      rw [hk]
      obtain ⟨x, z, e⟩ := own_len ho
      simp only [Value.slice.injEq] at e
      exact e.2.1
    have hbit : s.testBit (k + 1) = false := by
      obtain ⟨s', vals', e, -, -, b3, -⟩ := hG
      simp only [Option.some.injEq, Prod.mk.injEq] at e
      obtain ⟨rfl, rfl⟩ := e
      have := b3 k hk4
      dsimp only at this
      rw [this, hnm, hk, dn_not hm hi, Bool.and_false]
    have e1 : ((k + 1 : Nat) : Int) = (k : Int) + 1 := by omega
    have ez : ((k : Int) + 1).toNat = k + 1 := by omega
    have hz : comeS usualK s ((k : Int) + 1) nv = 0 := by
      unfold comeS
      rw [ez, if_pos ⟨by omega, by show (k : Int) + 1 ≤ 4; omega⟩, hbit, if_neg (by simp), if_pos]
      rw [hn0, Nat.add_sub_cancel]
      exact c4_fields hk4
    rw [← hk] at ho ⊢
    refine (hS1.2.1.add (by omega) _ _ ((k : Int) + 1) s old (valsN (i : Int) (c4 k)) hc av nv cv (Iz.own (l := valsN (i : Int) (c4 k)) (by rw [valsN_len]; exact ho)) ?_ (fun q e => ⟨rel_new (Nat.le_trans hW0.size (ho.lt q e).1), (ho.lt q e).2⟩) hz (valsN_fit _ _)).mono ?_
    · intro e
      rcases ho.2 with ⟨e', -⟩ | ⟨g', c', cur, e', -⟩
      · simp only [Value.slice.injEq] at e'
        exact Prod.ext e'.2.1 e'.2.2
      · simp only [Value.slice.injEq] at e'
        rw [e] at e'
        cases e'.1
    · rintro e w' ⟨rfl, vals', own', r1, r2, r3, r4⟩
      rw [ez] at r1 r3 r4
      have hT := hS1.turnB r2 (M' := 1040 + 4 * (n + 1)) (r1.up (by omega)) (by omega)
      have hown' := hT.2.2.2.1
      rw [hlen] at hown'
      refine ⟨rfl, ⟨_, own', gs, A, Ca, _, hT, p1_dom h2 (dom_same hc), .inr ⟨by have := hB.1; omega, fun j hj => ?_⟩⟩, i_own_ent hown' i (by omega)⟩
      dsimp only
      by_cases cj : j = i
      · subst cj
        rw [show ent A[j] = ((A[j].1 : Int), (A[j].2 : Int)) from rfl, if_pos rfl]
        have hsb : Sb usualK (s ||| 2 ^ (k + 1)) := (r1.sb (e := ((A[j].1 : Int), (A[j].2 : Int))) (if_pos rfl)).1
        refine (hG.add hk4 hsb r3 r4).congr (fun q hq => ?_)
        rw [hnm, dn_step hm hi (by omega), ← hk]
        by_cases cq : q = k
        · subst cq
          rw [hk, hb]
          simp
        · have : ¬ k = q := fun e => cq e.symm
          simp [cq, this]
      · rw [if_neg (show ¬ ent A[j] = ((A[i].1 : Int), (A[i].2 : Int)) from hne j hj cj)]
        refine (hB.2 j hj).congr (fun q hq => ?_)
        rw [hnm, dn_step hm hi (by omega)]
        simp [cj]
/-- At the end both have the same. -/
theorem St3.done (h : St3 w ga gb S ρ W L v (8 * L)) (hL : 0 < L) : ∃ oa ob gs C N, Wn W oa ga N usualK gs [] C ∧ Wn W ob gb N usualK gs [] C ∧ Below w.heap.size w W := by
  obtain ⟨oa, ob, gs, A, Ca, Cb, h1, h2, h3⟩ := h
  have hB : ∀ j (_ : j < A.length), Gv (Cb (ent A[j])) (bitS S j) (j : Int) := fun j hj => by
    rcases h3 with h3 | h3
    · have := h3.1
      omega
    · have := h2.2.1
      exact (h3.2 j hj).congr (fun k hk => by rw [dn_all (by omega) hk, Bool.and_true])
  have e : Ca = Cb := by
    funext x
    by_cases c : ∃ p ∈ A, x = ent p
    · obtain ⟨p, hp, rfl⟩ := c
      obtain ⟨j, hj, rfl⟩ := List.getElem_of_mem hp
      exact (h2.2.2.2.2.2 j hj).unique (hB j hj)
    · have a1 : (Ca x).isSome = false := by rw [← Bool.not_eq_true, h2.2.2.2.1]; exact c
      have a2 : (Cb x).isSome = false := by rw [← Bool.not_eq_true, h2.2.2.2.2.1]; exact c
      rw [Option.isSome_eq_false_iff] at a1 a2
      rw [Option.isNone_iff_eq_none.1 a1, Option.isNone_iff_eq_none.1 a2]
  subst e
  exact ⟨oa, ob, gs, Ca, _, h1.1, h1.2.1, h1.2.2.2.2.2.1.1⟩
end
end Go.Proofs.YtafmiolehlagkaaGreat
