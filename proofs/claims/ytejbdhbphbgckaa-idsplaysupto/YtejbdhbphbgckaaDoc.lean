/-
  The document's pool in memory: its rows, and the calls that only read.
-/
import Derived.Test.YtejbdhbphbgckaaFence
import Derived.Test.YtejbdhbphbgckaaEnts
namespace Go.Proofs.Ytejbdhbphbgckaa
open Go.RowKit
theorem info4 : (Try.prog.info? 4).map (fun i => (i.zero, i.size, i.bytes)) = some (some (.bool false), 1, 1) := by kernel_rfl
def bc (l : List Bool) : List Value := l.map Value.bool
theorem bc_len (l : List Bool) : (bc l).length = l.length := by simp [bc]
theorem bc_append (a b : List Bool) : bc (a ++ b) = bc a ++ bc b := by simp [bc]
theorem bc_set (l : List Bool) (i : Nat) (x : Bool) : (bc l).set i (.bool x) = bc (l.set i x) := by simp [bc, List.map_set]
theorem bc_at (l : List Bool) (i : Nat) (h : i < l.length) : (bc l)[i]? = some (.bool l[i]) := by simp [bc, h]
theorem bc_one (l : List Bool) : ∀ u ∈ bc l, u.oneCell' = true := by
  intro u hu
  simp only [bc, List.mem_map] at hu
  obtain ⟨b, _, rfl⟩ := hu
  rfl
theorem own_bool {w : World} {B g n c : Nat} {l : List Bool} (h : w.ownsRow B 4 1 (.slice (some ⟨g, 0, none⟩) n c) n (bc l)) (i : Nat) (hi : i < l.length) : w.cell? ⟨g, i, none⟩ = some (.bool l[i]) := by
  have hl := h.1
  rw [bc_len] at hl
  rw [h.cellAt i (by omega), bc_at l i hi]
theorem own_bool_set {w : World} {B g n c : Nat} {l : List Bool} (h : w.ownsRow B 4 1 (.slice (some ⟨g, 0, none⟩) n c) n (bc l)) (i : Nat) (x : Bool) : (w.setCell ⟨g, i, none⟩ (.bool x)).ownsRow B 4 1 (.slice (some ⟨g, 0, none⟩) n c) n (bc (l.set i x)) := by
  rw [← bc_set]
  exact (h.stored i _).1
/-- Numbers that are read, wherever in a block they begin. -/
def Fw (w : World) (v : Value) (l : List Nat) : Prop :=
  (v = .slice none 0 0 ∧ l = []) ∨ ∃ g o c, v = .slice (some ⟨g, o, none⟩) l.length c ∧ l.length ≤ c ∧ c ≤ maxLen ∧ g < w.heap.size ∧ ∀ j (hj : j < l.length), w.cell? ⟨g, o + j, none⟩ = some (.int .i64 (l[j] : Int))
theorem Fw.nil (w : World) : Fw w (.slice none 0 0) [] := .inl ⟨rfl, rfl⟩
section
variable {w w' : World} {v : Value} {l : List Nat}
theorem Fw.len (h : Fw w v l) : ∃ ao c, v = .slice ao l.length c ∧ l.length ≤ c ∧ c ≤ 9223372036854775807 := by
  rcases h with ⟨rfl, rfl⟩ | ⟨g, o, c, rfl, h1, h2, -⟩
  · exact ⟨none, 0, rfl, Nat.zero_le _, by omega⟩
  · exact ⟨_, c, rfl, h1, by unfold maxLen at h2; omega⟩
theorem Fw.lt (h : Fw w v l) : ∀ k, v.ownBlock = some k → k < w.heap.size := fun k e => by
  rcases h with ⟨rfl, rfl⟩ | ⟨g, o, c, rfl, -, -, hg, -⟩
  · simp [Value.ownBlock] at e
  · simp only [Value.ownBlock, Option.some.injEq] at e
    omega
theorem Fw.same (h : Fw w v l) (hsz : w.heap.size ≤ w'.heap.size) (hs : ∀ k, v.ownBlock = some k → w'.heap[k]? = w.heap[k]?) : Fw w' v l := by
  rcases h with ⟨rfl, rfl⟩ | ⟨g, o, c, rfl, h1, h2, hg, h3⟩
  · exact .inl ⟨rfl, rfl⟩
  · exact .inr ⟨g, o, c, rfl, h1, h2, by omega, fun j hj => (World.cell?_of_block (hs g rfl)).trans (h3 j hj)⟩
theorem Fw.later (h : Fw w v l) (hb : Below w.heap.size w w') : Fw w' v l := h.same hb.size (fun k e => hb.block k (h.lt k e))
theorem Fw.set {g k : Nat} {u : Value} (h : Fw w v l) (hne : v.ownBlock ≠ some g) : Fw (w.setCell ⟨g, k, none⟩ u) v l :=
  h.same (by simp) (fun q e => heap_setCell_other w ⟨g, k, none⟩ q u (fun e' => hne (by rw [e, e'])))
theorem Fw.form (h : Fw w v l) (h0 : 0 < l.length) : ∃ g o c, v = .slice (some ⟨g, o, none⟩) l.length c ∧ l.length ≤ c ∧ c ≤ 9223372036854775807 := by
  rcases h with ⟨rfl, rfl⟩ | ⟨g, o, c, rfl, h1, h2, -⟩
  · simp at h0
  · exact ⟨g, o, c, rfl, h1, by unfold maxLen at h2; omega⟩
theorem Fw.at {g o n c : Nat} (h : Fw w (.slice (some ⟨g, o, none⟩) n c) l) (j : Nat) (hj : j < l.length) : w.cell? ⟨g, o + j, none⟩ = some (.int .i64 (l[j] : Int)) := by
  rcases h with ⟨h', -⟩ | ⟨g', o', c', h', h1, h2, hg, h3⟩
  · simp at h'
  · simp only [Value.slice.injEq, Option.some.injEq, Addr.mk.injEq, and_true] at h'
    obtain ⟨⟨rfl, rfl⟩, -, -⟩ := h'
    exact h3 j hj
theorem own_fw {B : Nat} (h : w.ownsRow B 3 1 v l.length (ic l)) : Fw w v l := by
  rcases h.2 with ⟨rfl, h0⟩ | ⟨g, c, cur, rfl, -, hg, h1, h2, -⟩
  · exact .inl ⟨rfl, List.eq_nil_of_length_eq_zero h0⟩
  · exact .inr ⟨g, 0, c, rfl, h1, h2, lt_of_block hg, fun j hj => by rw [Nat.zero_add]; exact own_int h j hj⟩
end
/-- append of such numbers onto a row of one's own. -/
theorem run_append_fw {w : World} (base : Nat) (ty : TypeId) {v vb : Value} {xs l : List Nat} (h : w.ownsRow base 3 1 v xs.length (ic xs)) (hb : Fw w vb l) (hl : xs.length + l.length ≤ 1000000) (hbase : base ≤ w.heap.size) :
    ∃ v' w', (Builtin.append_ #[33, 33] ty #[v, vb]).run Try.prog w = .ok v' w' ∧ w'.ownsRow base 3 1 v' (xs ++ l).length (ic (xs ++ l)) ∧ w.grownBy w' v.ownBlock ∧ (v'.ownBlock = v.ownBlock ∨ v'.ownBlock = some w.heap.size) := by
  obtain ⟨i, hi, hz0, hz1, hz2⟩ := info_parts info3
  rcases hb with ⟨rfl, rfl⟩ | ⟨g, o, c, rfl, h1, h2, hg, h3⟩
  · refine ⟨v, w, run_append_owned_none w base 33 ty 3 i 1 Try.underlying33 hi v xs.length _ h, ?_, ⟨rfl, rfl, rfl, Nat.le_refl _, fun _ _ _ => rfl⟩, .inl rfl⟩
    simpa using h
  · obtain ⟨v', w', hr, q2, q3, _, q5⟩ := run_append_own_at (P := Try.prog) w base 33 ty 3 i (.int .i64 0) 1 8 Try.underlying33 hi hz0 hz1 hz2 rfl (by decide) v xs.length _ h ⟨g, o, none⟩ l.length c (ic l) (by rw [ic_len]; omega) (fun j u hj => by
      have hjl : j < l.length := by rw [← ic_len]; exact (List.getElem?_eq_some_iff.1 hj).1
      rw [ic_at l j hjl] at hj
      rw [WideShapes.add_plain, h3 j hjl, hj]) (ic_one l) (by unfold maxLen; omega) (by omega) hbase
    refine ⟨v', w', hr, ?_, q3, q5⟩
    rw [List.length_append, ic_append]
    exact q2
/-- The document's pool: its block; its three rows. -/
def Dm (w : World) (g n : Nat) (vg vo vf : Value) (hs : List Nat) (os : List Bool) (fr : List Nat) : Prop :=
  w.heap[g]? = some (.cells #[.int .i64 (n : Int), vg, vo, vf] 62 (0, 0)) ∧ w.ownsRow 0 3 1 vg hs.length (ic hs) ∧ w.ownsRow 0 4 1 vo os.length (bc os) ∧ Fw w vf fr ∧
  (vg.ownBlock ≠ some g ∧ vo.ownBlock ≠ some g ∧ vf.ownBlock ≠ some g) ∧ Ap vg vo ∧ Ap vg vf ∧ Ap vo vf
section
variable {w w' : World} {g n : Nat} {vg vo vf : Value} {hs fr : List Nat} {os : List Bool}
theorem Dm.lt (h : Dm w g n vg vo vf hs os fr) : g < w.heap.size := lt_of_block h.1
theorem Dm.cell (h : Dm w g n vg vo vf hs os fr) : w.cell? ⟨g, 0, none⟩ = some (.int .i64 (n : Int)) ∧ w.cell? ⟨g, 1, none⟩ = some vg ∧ w.cell? ⟨g, 2, none⟩ = some vo ∧ w.cell? ⟨g, 3, none⟩ = some vf := by
  refine ⟨?_, ?_, ?_, ?_⟩ <;> rw [cell_of_row w g _ _ 62 (0, 0) h.1] <;> rfl
theorem Dm.frozen (h : Dm w g n vg vo vf hs os fr) (k : Nat) : w.frozen? ⟨g, k, none⟩ = false := frozen_of_row w g k _ 62 h.1
theorem Dm.later (h : Dm w g n vg vo vf hs os fr) (hb : Below w.heap.size w w') : Dm w' g n vg vo vf hs os fr := by
  obtain ⟨h1, h2, h3, h4, h5⟩ := h
  exact ⟨(hb.block g (lt_of_block h1)).trans h1, own_later h2 hb, own_later h3 hb, h4.later hb, h5⟩
theorem Dm.frame {T : Nat → Prop} (h : Dm w g n vg vo vf hs os fr) (hm : Mv w w' T) (h0 : ¬ T g) (h1 : ∀ k, vg.ownBlock = some k → ¬ T k) (h2 : ∀ k, vo.ownBlock = some k → ¬ T k) (h3 : ∀ k, vf.ownBlock = some k → ¬ T k) : Dm w' g n vg vo vf hs os fr := by
  obtain ⟨a1, a2, a3, a4, a5⟩ := h
  exact ⟨hm.at a1 h0, hm.own a2 h1, hm.own a3 h2, a4.same hm.size (fun k e => hm.2.2.2.2 k (a4.lt k e) (h3 k e)), a5⟩
theorem Dm.set_gen {gg c : Nat} (h : Dm w g n (.slice (some ⟨gg, 0, none⟩) hs.length c) vo vf hs os fr) (i x : Nat) : Dm (w.setCell ⟨gg, i, none⟩ (.int .i64 (x : Int))) g n (.slice (some ⟨gg, 0, none⟩) hs.length c) vo vf (hs.set i x) os fr := by
  obtain ⟨a1, a2, a3, a4, a5, a6, a7, a8⟩ := h
  refine ⟨(heap_setCell_other w ⟨gg, i, none⟩ g _ (fun e => a5.1 (by rw [e]; rfl))).trans a1, ?_, own_set a3 (fun e => a6 gg rfl e), a4.set (fun e => a7 gg rfl e), a5, a6, a7, a8⟩
  rw [List.length_set]
  exact own_int_set a2 i x
theorem Dm.set_on {go c : Nat} (h : Dm w g n vg (.slice (some ⟨go, 0, none⟩) os.length c) vf hs os fr) (i : Nat) (x : Bool) : Dm (w.setCell ⟨go, i, none⟩ (.bool x)) g n vg (.slice (some ⟨go, 0, none⟩) os.length c) vf hs (os.set i x) fr := by
  obtain ⟨a1, a2, a3, a4, a5, a6, a7, a8⟩ := h
  refine ⟨(heap_setCell_other w ⟨go, i, none⟩ g _ (fun e => a5.2.1 (by rw [e]; rfl))).trans a1, own_set a2 (fun e => a6 go e rfl), ?_, a4.set (fun e => a8 go rfl e), a5, a6, a7, a8⟩
  rw [List.length_set]
  exact own_bool_set a3 i x
/-- Another free row is put down. -/
theorem Dm.put_free {v : Value} {fr' : List Nat} (h : Dm w g n vg vo vf hs os fr) (hv : Fw w v fr') (h0 : v.ownBlock ≠ some g) (h1 : Ap vg v) (h2 : Ap vo v) : Dm (w.setCell ⟨g, 3, none⟩ v) g n vg vo v hs os fr' := by
  obtain ⟨a1, a2, a3, a4, a5, a6, a7, a8⟩ := h
  refine ⟨?_, own_set a2 a5.1, own_set a3 a5.2.1, hv.set h0, ⟨a5.1, a5.2.1, h0⟩, a6, h1, h2⟩
  rw [heap_setCell_same w g 3 _ 62 _ a1]
  rfl
theorem Dm.put_gens {v : Value} {hs' : List Nat} (h : Dm w g n vg vo vf hs os fr) (hv : w.ownsRow 0 3 1 v hs'.length (ic hs')) (h0 : v.ownBlock ≠ some g) (h1 : Ap v vo) (h2 : Ap v vf) : Dm (w.setCell ⟨g, 1, none⟩ v) g n v vo vf hs' os fr := by
  obtain ⟨a1, a2, a3, a4, a5, a6, a7, a8⟩ := h
  refine ⟨?_, own_set hv h0, own_set a3 a5.2.1, a4.set a5.2.2, ⟨h0, a5.2.1, a5.2.2⟩, h1, h2, a8⟩
  rw [heap_setCell_same w g 1 _ 62 _ a1]
  rfl
theorem Dm.put_ons {v : Value} {os' : List Bool} (h : Dm w g n vg vo vf hs os fr) (hv : w.ownsRow 0 4 1 v os'.length (bc os')) (h0 : v.ownBlock ≠ some g) (h1 : Ap vg v) (h2 : Ap v vf) : Dm (w.setCell ⟨g, 2, none⟩ v) g n vg v vf hs os' fr := by
  obtain ⟨a1, a2, a3, a4, a5, a6, a7, a8⟩ := h
  refine ⟨?_, own_set a2 a5.1, own_set hv h0, a4.set a5.2.2, ⟨a5.1, h0, a5.2.2⟩, h1, a7, h2⟩
  rw [heap_setCell_same w g 2 _ 62 _ a1]
  rfl
end
/-- What it knows, of what State tells. -/
def hsOf (gs : List Nat) : List Nat := gs.map fun x => min x 1000000
def osOf (gs fr : List Nat) : List Bool := (List.range gs.length).map (on gs fr)
theorem hsOf_len (gs : List Nat) : (hsOf gs).length = gs.length := by simp [hsOf]
theorem osOf_len (gs fr : List Nat) : (osOf gs fr).length = gs.length := by simp [osOf]
theorem hsOf_at (gs : List Nat) (i : Nat) (h : i < gs.length) : (hsOf gs)[i]'(by rw [hsOf_len]; exact h) = min (gs.getD i 0) 1000000 := by simp [hsOf, h]
theorem osOf_at (gs fr : List Nat) (i : Nat) (h : i < gs.length) : (osOf gs fr)[i]'(by rw [osOf_len]; exact h) = on gs fr i := by simp [osOf]
theorem on_le {gs fr : List Nat} {i : Nat} (h : on gs fr i = true) : gs.getD i 0 ≤ 1000000 := by
  simp only [on, Bool.and_eq_true, decide_eq_true_eq] at h
  exact h.1
def Dl (w : World) (S : Nat → Prop) (g n : Nat) (gs fr : List Nat) : Prop :=
  (∃ vg vo vf, Dm w g n vg vo vf (hsOf gs) (osOf gs fr) fr ∧ S g ∧ In S vg ∧ In S vo ∧ In S vf) ∧ Ok n gs fr
section
variable {w w' : World} {S T : Nat → Prop} {g n : Nat} {gs fr : List Nat}
theorem Dl.mono (h : Dl w S g n gs fr) (hs : ∀ k, S k → T k) : Dl w T g n gs fr := by
  obtain ⟨⟨vg, vo, vf, h1, h2, h3, h4, h5⟩, ho⟩ := h
  exact ⟨⟨vg, vo, vf, h1, hs g h2, h3.mono hs, h4.mono hs, h5.mono hs⟩, ho⟩
theorem Dl.frame (h : Dl w S g n gs fr) (hm : Mv w w' T) (hs : ∀ k, S k → ¬ T k) : Dl w' S g n gs fr := by
  obtain ⟨⟨vg, vo, vf, h1, h2, h3, h4, h5⟩, ho⟩ := h
  exact ⟨⟨vg, vo, vf, h1.frame hm (hs g h2) (fun k e => hs k (h3 k e)) (fun k e => hs k (h4 k e)) (fun k e => hs k (h5 k e)), h2, h3, h4, h5⟩, ho⟩
theorem Dl.later (h : Dl w S g n gs fr) (hb : Below w.heap.size w w') : Dl w' S g n gs fr := h.frame (Mv.of_below hb (fun _ => False)) (fun _ _ e => e)
theorem Dl.tight (h : Dl w S g n gs fr) : Dl w (fun k => S k ∧ k < w.heap.size) g n gs fr := by
  obtain ⟨⟨vg, vo, vf, hp, s0, s1, s2, s3⟩, ho⟩ := h
  exact ⟨⟨vg, vo, vf, hp, ⟨s0, hp.lt⟩, fun k e => ⟨s1 k e, (hp.2.1.lt k e).2⟩, fun k e => ⟨s2 k e, (hp.2.2.1.lt k e).2⟩, fun k e => ⟨s3 k e, hp.2.2.2.1.lt k e⟩⟩, ho⟩
end
/-! ### Calls that read -/
set_option maxHeartbeats 1000000 in
theorem dnew_bad (x : Int) (w : World) (h : x < 1 ∨ x > 200) : Calls Try.prog 7 #[.int .i64 x] w fun e w' => e = .returned (.tuple #[.pointer none, .int .i64 1]) ∧ w' = w := by
  by_cases h1 : x < 1
  · go_enter Try.func7, Try.ntmps7
    go_wp2_with fail
    go_ret2
    exact ⟨rfl, rfl⟩
  · have h2 : x > 200 := by omega
    clear h
    go_enter Try.func7, Try.ntmps7
    go_wp2_with fail
    go_ret2
    exact ⟨rfl, rfl⟩
set_option maxHeartbeats 1000000 in
theorem dnew_any (n : Nat) (w : World) (h1 : 1 ≤ n) (h2 : n ≤ 200) : Calls Try.prog 7 #[.int .i64 (n : Int)] w fun e w' => e = .returned (.tuple #[.pointer (some ⟨w.heap.size, 0, none⟩), .int .i64 0]) ∧ Dl w' (fun k => k = w.heap.size) w.heap.size n [] [] ∧ Below w.heap.size w w' := by
  have t1 : ¬ (n : Int) < 1 := by omega
  have t2 : ¬ (n : Int) > 200 := by omega
  go_enter Try.func7, Try.ntmps7
  go_wp2_with fail
  go_ret2
  refine ⟨rfl, ⟨⟨.slice none 0 0, .slice none 0 0, .slice none 0 0, ⟨heap_alloc_new w _, World.ownsRow_nil _ _ _ _, World.ownsRow_nil _ _ _ _, Fw.nil _, ?_, ?_, ?_, ?_⟩, rfl, In.nil _, In.nil _, In.nil _⟩, h1, h2, by simp, by simp, by simp, by simp⟩, below_alloc w _⟩
  · simp [Value.ownBlock]
  all_goals
    intro k e
    simp [Value.ownBlock] at e
set_option maxHeartbeats 1000000 in
theorem dat_any {w : World} {S : Nat → Prop} {g n : Nat} {gs fr : List Nat} (x : Int) (h : Dl w S g n gs fr) :
    Calls Try.prog 33 #[.pointer (some ⟨g, 0, none⟩), .int .i64 x] w fun e w' => e = .returned (.tuple #[ev (atOf gs fr x), .int .i64 (if isOn gs fr x then 0 else 41)]) ∧ Below w.heap.size w w' := by
  obtain ⟨⟨vg, vo, vf, hp, _⟩, ho⟩ := h
  have c1 : ∀ o, (w.alloc o).cell? ⟨g, 1, none⟩ = some vg := fun o => (hp.later (below_alloc w o)).cell.2.1
  have c2 : ∀ o, (w.alloc o).cell? ⟨g, 2, none⟩ = some vo := fun o => (hp.later (below_alloc w o)).cell.2.2.1
  obtain ⟨aog, cg, rfl⟩ := own_len hp.2.1
  have hgl := hsOf_len gs
  by_cases h0 : x < 0
  · have e : isOn gs fr x = false := by simp [isOn]; omega
    simp only [atOf, e]
    clear hp ho e
    go_enter Try.func33, Try.ntmps33
    go_wp2_with fail
    (try simp only [Exit.inBlock, Exit.then])
    refine bodyPost_ret (v := .tuple #[ev (0, 0), .int .i64 41]) ?_ rfl ⟨rfl, below_alloc w _⟩
    rw [results_cell_tmp rfl]
    go_simp
    rfl
  · obtain ⟨i, rfl⟩ : ∃ i : Nat, x = (i : Int) := ⟨x.toNat, by omega⟩
    by_cases h1 : i < gs.length
    · have t1 : (i : Int) < (gs.length : Int) := by omega
      have t2 : ¬ (gs.length : Int) ≤ (i : Int) := by omega
      obtain ⟨gg, cg', ee, -, -⟩ := own_form hp.2.1 (by omega)
      simp only [Value.slice.injEq] at ee
      obtain ⟨rfl, -, rfl⟩ := ee
      obtain ⟨go, co, rfl, -, -⟩ := own_form hp.2.2.1 (by rw [osOf_len]; omega)
      have e1 : ∀ o, (w.alloc o).cell? ⟨gg, i, none⟩ = some (.int .i64 ((min (gs.getD i 0) 1000000 : Nat) : Int)) := fun o => by
        rw [own_int (hp.later (below_alloc w o)).2.1 i (by rw [hsOf_len]; exact h1), hsOf_at gs i h1]
      have e2 : ∀ o, (w.alloc o).cell? ⟨go, i, none⟩ = some (.bool (on gs fr i)) := fun o => by
        rw [own_bool (hp.later (below_alloc w o)).2.2.1 i (by rw [osOf_len]; exact h1), osOf_at gs fr i h1]
      rw [osOf_len] at c2
      rw [hsOf_len] at c1
      cases hon : on gs fr i with
      | true =>
        have e : isOn gs fr (i : Int) = true := by simp [isOn, hon, h1]
        have hle := on_le hon
        rw [hon] at e2
        rw [Nat.min_eq_left hle] at e1
        simp only [atOf, e, if_true, Int.toNat_natCast]
        generalize gs.getD i 0 = y at *
        clear hp ho e hon hle hgl
        go_enter Try.func33, Try.ntmps33
        go_wp2_with fail
        (try simp only [Exit.inBlock, Exit.then])
        refine bodyPost_ret (v := .tuple #[ev (i, y), .int .i64 0]) ?_ rfl ⟨rfl, below_alloc w _⟩
        rw [results_cell_tmp rfl]
        go_simp
        rfl
      | false =>
        have e : isOn gs fr (i : Int) = false := by simp [isOn, hon]
        rw [hon] at e2
        simp only [atOf, e]
        clear hp ho e hon e1 hgl
        go_enter Try.func33, Try.ntmps33
        go_wp2_with fail
        (try simp only [Exit.inBlock, Exit.then])
        refine bodyPost_ret (v := .tuple #[ev (0, 0), .int .i64 41]) ?_ rfl ⟨rfl, below_alloc w _⟩
        rw [results_cell_tmp rfl]
        go_simp
        rfl
    · have e : isOn gs fr (i : Int) = false := by simp [isOn, h1]
      have t1 : (gs.length : Int) ≤ (i : Int) := by omega
      rw [hsOf_len] at c1
      simp only [atOf, e]
      clear hp ho e hgl
      go_enter Try.func33, Try.ntmps33
      go_wp2_with fail
      (try simp only [Exit.inBlock, Exit.then])
      refine bodyPost_ret (v := .tuple #[ev (0, 0), .int .i64 41]) ?_ rfl ⟨rfl, below_alloc w _⟩
      rw [results_cell_tmp rfl]
      go_simp
      rfl
end Go.Proofs.Ytejbdhbphbgckaa
