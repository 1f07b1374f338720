/-
  The document's Clone.
-/
import Derived.Test.YtejbdhbphbgckaaDocGive
namespace Go.Proofs.Ytejbdhbphbgckaa
open Go.RowKit
theorem step_append_fw (w : World) {ops : Array Oper} {o : Oper} {a : Act} {K : Act → World → Prop} {Q : Exit → Act → World → Prop} {E : Prop} (hgd : o.guard = none) (s x : Operand)
    (ho : o.op = .call { callee := .builtin .append, args := #[s, x], argTypes := #[33, 33] })
    (base : Nat) (v vb : Value) (xs l : List Nat) (hs : a.eval s = v) (hown : w.ownsRow base 3 1 v xs.length (ic xs)) (hx : a.eval x = vb) (hb : Fw w vb l) (hl : xs.length + l.length ≤ 1000000) (hbase : base ≤ w.heap.size)
    (h : ∀ v' w', w'.ownsRow base 3 1 v' (xs ++ l).length (ic (xs ++ l)) → w.grownBy w' v.ownBlock → (v'.ownBlock = v.ownBlock ∨ v'.ownBlock = some w.heap.size) → K (a.put o.dst v') w') :
    if Region.wanted o (yielded ops a.tmps) = true then Oper.wp Try.prog o a w K Q else E := by
  have hw : Region.wanted o (yielded ops a.tmps) = true := by simp [Region.wanted, hgd]
  rw [if_pos hw]
  obtain ⟨v', w', hr, h2, h3, h4⟩ := run_append_fw base o.type hown hb hl hbase
  unfold Oper.wp execOp
  simp only [ho, resolve, invoke, builtin, Sem.run_bind, Sem.run_pure, Result.andThen_ok, List.map_toArray, List.map_cons, List.map_nil, hs, hx, hr]
  exact h v' w' h2 h3 h4
theorem run_append_bw {w : World} (ty : TypeId) {vb : Value} {l : List Bool} (hb : w.ownsRow 0 4 1 vb l.length (bc l)) (hl : l.length ≤ 1000000) :
    ∃ v' w', (Builtin.append_ #[60, 60] ty #[.slice none 0 0, vb]).run Try.prog w = .ok v' w' ∧ w'.ownsRow w.heap.size 4 1 v' l.length (bc l) ∧ w.grownBy w' none := by
  obtain ⟨i, hi, hz0, hz1, hz2⟩ := info_parts info4
  rcases hb.2 with ⟨rfl, h0⟩ | ⟨g, c, cur, rfl, -, hg, h1, h2, -⟩
  · obtain rfl : l = [] := List.eq_nil_of_length_eq_zero h0
    exact ⟨_, w, run_append_owned_none w w.heap.size 60 ty 4 i 1 Try.underlying60 hi _ 0 [] (World.ownsRow_nil _ _ _ _), World.ownsRow_nil _ _ _ _, ⟨rfl, rfl, rfl, Nat.le_refl _, fun _ _ _ => rfl⟩⟩
  · obtain ⟨v', w', hr, q2, q3, _, q5⟩ := run_append_own_at (P := Try.prog) w w.heap.size 60 ty 4 i (.bool false) 1 1 Try.underlying60 hi hz0 hz1 hz2 rfl (by decide) (.slice none 0 0) 0 [] (World.ownsRow_nil _ _ _ _) ⟨g, 0, none⟩ l.length c (bc l) (by rw [bc_len]; omega) (hb.cells rfl) (bc_one l) (by unfold maxLen; omega) (by omega) (Nat.le_refl _)
    exact ⟨v', w', hr, by simpa using q2, q3⟩
theorem step_append_bw (w : World) {ops : Array Oper} {o : Oper} {a : Act} {K : Act → World → Prop} {Q : Exit → Act → World → Prop} {E : Prop} (hgd : o.guard = none) (s x : Operand)
    (ho : o.op = .call { callee := .builtin .append, args := #[s, x], argTypes := #[60, 60] })
    (vb : Value) (l : List Bool) (hs : a.eval s = .slice none 0 0) (hx : a.eval x = vb) (hb : w.ownsRow 0 4 1 vb l.length (bc l)) (hl : l.length ≤ 1000000)
    (h : ∀ v' w', w'.ownsRow w.heap.size 4 1 v' l.length (bc l) → w.grownBy w' none → K (a.put o.dst v') w') :
    if Region.wanted o (yielded ops a.tmps) = true then Oper.wp Try.prog o a w K Q else E := by
  have hw : Region.wanted o (yielded ops a.tmps) = true := by simp [Region.wanted, hgd]
  rw [if_pos hw]
  obtain ⟨v', w', hr, h2, h3⟩ := run_append_bw o.type hb hl
  unfold Oper.wp execOp
  simp only [ho, resolve, invoke, builtin, Sem.run_bind, Sem.run_pure, Result.andThen_ok, List.map_toArray, List.map_cons, List.map_nil, hs, hx, hr]
  exact h v' w' h2 h3
theorem below_set {w W : World} {g k : Nat} {u : Value} (h : Below w.heap.size w W) (hg : w.heap.size ≤ g) : Below w.heap.size w (W.setCell ⟨g, k, none⟩ u) :=
  h.grown (grown_set W g k u) h.size (fun q e => by cases e; exact hg)
set_option maxHeartbeats 4000000 in
set_option maxRecDepth 100000 in
theorem dcloned_dm (g n : Nat) (vg vo vf : Value) (hs fr : List Nat) (os : List Bool) (w : World) (h : Dm w g n vg vo vf hs os fr) (hg : hs.length ≤ 1000000) (ho : os.length ≤ 1000000) (hf : fr.length ≤ 1000000) :
    Calls Try.prog 25 #[.pointer (some ⟨g, 0, none⟩)] w fun e w' => ∃ v1 v2 v3, e = .returned (.pointer (some ⟨w.heap.size, 0, none⟩)) ∧ Dm w' w.heap.size n v1 v2 v3 hs os fr ∧ (∀ k, v1.ownBlock = some k ∨ v2.ownBlock = some k ∨ v3.ownBlock = some k → w.heap.size ≤ k) ∧ Below w.heap.size w w' := by
  have hb1 := below_alloc w (.cells #[.int .i64 (n : Int), .slice none 0 0, .slice none 0 0, .slice none 0 0] 62)
  have h1 := h.later hb1
  have nl : ∀ u, Ap (.slice none 0 0) u := fun u k e => by simp [Value.ownBlock] at e
  have hq1 : Dm (w.alloc (.cells #[.int .i64 (n : Int), .slice none 0 0, .slice none 0 0, .slice none 0 0] 62)) w.heap.size n (.slice none 0 0) (.slice none 0 0) (.slice none 0 0) [] [] [] := ⟨heap_alloc_new w _, World.ownsRow_nil _ _ _ _, World.ownsRow_nil _ _ _ _, Fw.nil _, by simp [Value.ownBlock], nl _, nl _, nl _⟩
  have hgw := h.lt
  have H := hide h
  obtain ⟨-, c1, c2, c3⟩ := h1.cell
  obtain ⟨c0, -, -, -⟩ := h.cell
  have HQ1 := hide hq1
  have HB1 := hide hb1
  have NL := hide nl
  clear h h1 hq1 hb1 nl
  go_enter Try.func25, Try.ntmps25
  go_upto_region 2 with fail
  obtain ⟨w1, hw1⟩ : ∃ X, X = w.alloc (.cells #[.int .i64 (n : Int), .slice none 0 0, .slice none 0 0, .slice none 0 0] 62) := ⟨_, rfl⟩
  rw [← hw1] at HQ1 HB1 c1 c2 c3 ⊢
  clear hw1
  obtain ⟨-, d1, -, -⟩ := HQ1.out.cell
  have hsz1 : w.heap.size < w1.heap.size := HQ1.out.lt
  have FW := hide (own_fw ((H.out.later HB1.out).2.1))
  go_cut [] (fun wx => ∃ v1, Hid (Dm wx w.heap.size n v1 (.slice none 0 0) (.slice none 0 0) hs [] [] ∧ (∀ k, v1.ownBlock = some k → w.heap.size ≤ k) ∧ Below w.heap.size w wx))
  case first =>
    go_region_law (refine step_append_fw _ rfl (.tmp 14) (.tmp 18) rfl w1.heap.size (.slice none 0 0) vg [] hs (by simp [Act.eval]) (World.ownsRow_nil _ _ _ _) (by simp [Act.eval]) (FW.out.later (below_drew w1)) (by simp; omega) (Nat.le_refl _) ?_; intro v' w9 q1 q2 _; have hb9 : Below w1.heap.size w1 w9 := (below_drew w1).grown q2 (Nat.le_refl _) (fun k e => by simp [Value.ownBlock] at e); have hq9 := HQ1.out.later hb9; have x1 : w9.cell? ⟨w.heap.size, 1, none⟩ = some (.slice none 0 0) := hq9.cell.2.1; have y1 := hq9.frozen 1; rw [List.nil_append] at q1; obtain ⟨ao9, c9, rfl⟩ := own_len q1; have Q1 := hide q1; have HB9 := hide (below_on HB1.out hb9); have HQ9 := hide hq9; clear q1 q2 hb9 hq9)
    all_goals
      have R : Hid (Dm (w9.setCell ⟨w.heap.size, 1, none⟩ (.slice ao9 hs.length c9)) w.heap.size n (.slice ao9 hs.length c9) (.slice none 0 0) (.slice none 0 0) hs [] [] ∧ (∀ k, (Value.slice ao9 hs.length c9).ownBlock = some k → w.heap.size ≤ k) ∧ Below w.heap.size w (w9.setCell ⟨w.heap.size, 1, none⟩ (.slice ao9 hs.length c9))) := ⟨HQ9.out.put_gens (own_lower Q1.out (Nat.zero_le _)) (fun e => by have := (Q1.out.lt _ e).1; omega) (NL.out _).symm (NL.out _).symm, fun k e => by have := (Q1.out.lt k e).1; omega, below_set HB9.out (Nat.le_refl _)⟩
      go_wp2_with fail
      go_meet
      exact ⟨_, R⟩
  obtain ⟨v1, R1⟩ := hcut
  obtain ⟨w2, rfl⟩ : ∃ x, x = wc := ⟨_, rfl⟩
  clear HQ1 HB1 c1 c2 c3 d1 hsz1 FW
  obtain ⟨-, c1, c2, c3⟩ := (H.out.later R1.out.2.2).cell
  obtain ⟨-, -, d2, -⟩ := R1.out.1.cell
  have hsz2 : w.heap.size < w2.heap.size := R1.out.1.lt
  have OW := hide ((H.out.later R1.out.2.2).2.2.1)
  go_upto_region 3 with fail
  go_cut [] (fun wx => ∃ v2, Hid (Dm wx w.heap.size n v1 v2 (.slice none 0 0) hs os [] ∧ (∀ k, v2.ownBlock = some k → w.heap.size ≤ k) ∧ Below w.heap.size w wx))
  case first =>
    go_region_law (refine step_append_bw _ rfl (.tmp 26) (.tmp 30) rfl vo os (by simp [Act.eval]) (by simp [Act.eval]) (own_later OW.out (below_drew w2)) ho ?_; intro v' w9 q1 q2; have hb9 : Below w2.heap.size w2 w9 := (below_drew w2).grown q2 (Nat.le_refl _) (fun k e => by cases e); have hq9 := R1.out.1.later hb9; have x1 : w9.cell? ⟨w.heap.size, 2, none⟩ = some (.slice none 0 0) := hq9.cell.2.2.1; have y1 := hq9.frozen 2; obtain ⟨ao9, c9, rfl⟩ := own_len q1; have Q1 := hide q1; have HB9 := hide (below_on R1.out.2.2 hb9); have HQ9 := hide hq9; have HA9 := hide (fun k e => (R1.out.1.2.1.lt k e).2); clear q1 q2 hb9 hq9)
    all_goals
      have R : Hid (Dm (w9.setCell ⟨w.heap.size, 2, none⟩ (.slice ao9 os.length c9)) w.heap.size n v1 (.slice ao9 os.length c9) (.slice none 0 0) hs os [] ∧ (∀ k, (Value.slice ao9 os.length c9).ownBlock = some k → w.heap.size ≤ k) ∧ Below w.heap.size w (w9.setCell ⟨w.heap.size, 2, none⟩ (.slice ao9 os.length c9))) := ⟨HQ9.out.put_ons (own_lower Q1.out (Nat.zero_le _)) (fun e => by have := (Q1.out.lt _ e).1; simp at this; omega) (fun k e1 e2 => by have := (Q1.out.lt k e2).1; have := HA9.out k e1; simp at *; omega) (NL.out _).symm, fun k e => by have := (Q1.out.lt k e).1; simp at this; omega, below_set HB9.out (Nat.le_refl _)⟩
      go_wp2_with fail
      go_meet
      exact ⟨_, R⟩
  obtain ⟨v2, R2⟩ := hcut
  obtain ⟨w3, rfl⟩ : ∃ x, x = wc := ⟨_, rfl⟩
  clear c1 c2 c3 d2 hsz2 OW
  obtain ⟨-, c1, c2, c3⟩ := (H.out.later R2.out.2.2).cell
  obtain ⟨-, -, -, d3⟩ := R2.out.1.cell
  have hsz3 : w.heap.size < w3.heap.size := R2.out.1.lt
  have FW := hide ((H.out.later R2.out.2.2).2.2.2.1)
  go_upto_region 4 with fail
  go_cut [] (fun wx => ∃ v3, Hid (Dm wx w.heap.size n v1 v2 v3 hs os fr ∧ (∀ k, v3.ownBlock = some k → w.heap.size ≤ k) ∧ Below w.heap.size w wx))
  case first =>
    go_region_law (refine step_append_fw _ rfl (.tmp 38) (.tmp 42) rfl w3.heap.size (.slice none 0 0) vf [] fr (by simp [Act.eval]) (World.ownsRow_nil _ _ _ _) (by simp [Act.eval]) (FW.out.later (below_drew w3)) (by simp; omega) (Nat.le_refl _) ?_; intro v' w9 q1 q2 _; have hb9 : Below w3.heap.size w3 w9 := (below_drew w3).grown q2 (Nat.le_refl _) (fun k e => by simp [Value.ownBlock] at e); have hq9 := R2.out.1.later hb9; have x1 : w9.cell? ⟨w.heap.size, 3, none⟩ = some (.slice none 0 0) := hq9.cell.2.2.2; have y1 := hq9.frozen 3; rw [List.nil_append] at q1; obtain ⟨ao9, c9, rfl⟩ := own_len q1; have Q1 := hide q1; have HB9 := hide (below_on R2.out.2.2 hb9); have HQ9 := hide hq9; have HA9 := hide (fun k e => (R2.out.1.2.1.lt k e).2); have HA8 := hide (fun k e => (R2.out.1.2.2.1.lt k e).2); clear q1 q2 hb9 hq9)
    all_goals
      have R : Hid (Dm (w9.setCell ⟨w.heap.size, 3, none⟩ (.slice ao9 fr.length c9)) w.heap.size n v1 v2 (.slice ao9 fr.length c9) hs os fr ∧ (∀ k, (Value.slice ao9 fr.length c9).ownBlock = some k → w.heap.size ≤ k) ∧ Below w.heap.size w (w9.setCell ⟨w.heap.size, 3, none⟩ (.slice ao9 fr.length c9))) := ⟨HQ9.out.put_free (own_fw Q1.out) (fun e => by have := (Q1.out.lt _ e).1; omega) (fun k e1 e2 => by have := (Q1.out.lt k e2).1; have := HA9.out k e1; omega) (fun k e1 e2 => by have := (Q1.out.lt k e2).1; have := HA8.out k e1; omega), fun k e => by have := (Q1.out.lt k e).1; omega, below_set HB9.out (Nat.le_refl _)⟩
      go_wp2_with fail
      go_meet
      exact ⟨_, R⟩
  obtain ⟨v3, R3⟩ := hcut
  obtain ⟨w4, rfl⟩ : ∃ x, x = wc := ⟨_, rfl⟩
  clear c1 c2 c3 d3 hsz3 FW
  go_wp2_with fail
  go_ret
  exact ⟨v1, v2, v3, rfl, R3.out.1, fun k e => by
    rcases e with e | e | e
    · exact R1.out.2.1 k e
    · exact R2.out.2.1 k e
    · exact R3.out.2.1 k e, R3.out.2.2⟩
theorem dcloned_any {w : World} {S : Nat → Prop} {g n : Nat} {gs fr : List Nat} (h : Dl w S g n gs fr) :
    Calls Try.prog 25 #[.pointer (some ⟨g, 0, none⟩)] w fun e w' => ∃ g', e = .returned (.pointer (some ⟨g', 0, none⟩)) ∧ Dl w' (fun k => w.heap.size ≤ k) g' n gs fr ∧ Below w.heap.size w w' := by
  obtain ⟨⟨vg, vo, vf, hp, _⟩, ho⟩ := h
  have h1 := ho.2.2.1
  have h2 := ho.2.1
  have h3 := ho.free_len
  refine (dcloned_dm g n vg vo vf _ fr _ w hp (by rw [hsOf_len]; omega) (by rw [osOf_len]; omega) (by omega)).mono ?_
  rintro e w' ⟨v1, v2, v3, rfl, q1, q2, q3⟩
  exact ⟨_, rfl, ⟨⟨v1, v2, v3, q1, Nat.le_refl _, fun k e => q2 k (.inl e), fun k e => q2 k (.inr (.inl e)), fun k e => q2 k (.inr (.inr e))⟩, ho⟩, q3⟩
end Go.Proofs.Ytejbdhbphbgckaa
