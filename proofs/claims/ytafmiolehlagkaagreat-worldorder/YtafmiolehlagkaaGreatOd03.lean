import Derived.Test.YtafmiolehlagkaaGreatOd02
import Derived.Laws.ResultCell
import Derived.Lib.SliceRun
/-
  A pool in memory: its rows, and the calls that only read.
-/
namespace Go.Proofs.YtafmiolehlagkaaGreat
open Go.RowKit
set_option maxRecDepth 100000
/-- A pool: its block; its three rows: generations, who lives, the free row. -/
def Pm (w : World) (g n : Nat) (vg vl vf : Value) (gs fr : List Nat) (lv : List (Nat × Nat)) : Prop :=
  w.heap[g]? = some (.cells #[.int .i64 (n : Int), vg, vl, vf] 163 (0, 0)) ∧ w.ownsRow 0 3 1 vg gs.length (ic gs) ∧ w.ownsRow 0 29 2 vl lv.length (ec lv) ∧ w.ownsRow 0 3 1 vf fr.length (ic fr) ∧
  (vg.ownBlock ≠ some g ∧ vl.ownBlock ≠ some g ∧ vf.ownBlock ≠ some g) ∧ Ap vg vl ∧ Ap vg vf ∧ Ap vl vf
section
variable {w w' : World} {g n : Nat} {vg vl vf : Value} {gs fr : List Nat} {lv : List (Nat × Nat)}
theorem Pm.lt (h : Pm w g n vg vl vf gs fr lv) : g < w.heap.size := lt_of_block h.1
theorem Pm.cell (h : Pm w g n vg vl vf gs fr lv) : w.cell? ⟨g, 0, none⟩ = some (.int .i64 (n : Int)) ∧ w.cell? ⟨g, 1, none⟩ = some vg ∧ w.cell? ⟨g, 2, none⟩ = some vl ∧ w.cell? ⟨g, 3, none⟩ = some vf := by
  refine ⟨?_, ?_, ?_, ?_⟩ <;> rw [cell_of_row w g _ _ 163 (0, 0) h.1] <;> rfl
theorem Pm.frozen (h : Pm w g n vg vl vf gs fr lv) (k : Nat) : w.frozen? ⟨g, k, none⟩ = false := frozen_of_row w g k _ 163 h.1
theorem Pm.later (h : Pm w g n vg vl vf gs fr lv) (hb : Below w.heap.size w w') : Pm w' g n vg vl vf gs fr lv := by
  obtain ⟨h1, h2, h3, h4, h5⟩ := h
  exact ⟨(hb.block g (lt_of_block h1)).trans h1, own_later h2 hb, own_later h3 hb, own_later h4 hb, h5⟩
theorem Pm.frame {T : Nat → Prop} (h : Pm w g n vg vl vf gs fr lv) (hm : Mv w w' T) (h0 : ¬ T g) (h1 : ∀ k, vg.ownBlock = some k → ¬ T k) (h2 : ∀ k, vl.ownBlock = some k → ¬ T k) (h3 : ∀ k, vf.ownBlock = some k → ¬ T k) : Pm w' g n vg vl vf gs fr lv := by
  obtain ⟨a1, a2, a3, a4, a5⟩ := h
  exact ⟨hm.at a1 h0, hm.own a2 h1, hm.own a3 h2, hm.own a4 h3, a5⟩
/-- A number of its generations is written. -/
theorem Pm.set_gen {gg c : Nat} (h : Pm w g n (.slice (some ⟨gg, 0, none⟩) gs.length c) vl vf gs fr lv) (i x : Nat) : Pm (w.setCell ⟨gg, i, none⟩ (.int .i64 (x : Int))) g n (.slice (some ⟨gg, 0, none⟩) gs.length c) vl vf (gs.set i x) fr lv := by
  obtain ⟨a1, a2, a3, a4, a5, a6, a7, a8⟩ := h
  refine ⟨(heap_setCell_other w ⟨gg, i, none⟩ g _ (fun e => a5.1 (by rw [e]; rfl))).trans a1, ?_, own_set a3 (fun e => a6 gg rfl e), own_set a4 (fun e => a7 gg rfl e), a5, a6, a7, a8⟩
  rw [List.length_set]
  exact own_int_set a2 i x
/-- Who lives under a number is written. -/
theorem Pm.set_live {gl c : Nat} (h : Pm w g n vg (.slice (some ⟨gl, 0, none⟩) lv.length c) vf gs fr lv) (i a b : Nat) (hi : i < lv.length) : Pm ((w.setCell ⟨gl, i * 2, none⟩ (.int .i64 (a : Int))).setCell ⟨gl, i * 2 + 1, none⟩ (.int .i64 (b : Int))) g n vg (.slice (some ⟨gl, 0, none⟩) lv.length c) vf gs fr (lv.set i (a, b)) := by
  obtain ⟨a1, a2, a3, a4, a5, a6, a7, a8⟩ := h
  refine ⟨?_, own_set (own_set a2 (fun e => a6 gl e rfl)) (fun e => a6 gl e rfl), ?_, own_set (own_set a4 (fun e => a8 gl rfl e)) (fun e => a8 gl rfl e), a5, a6, a7, a8⟩
  · have hne : gl ≠ g := fun e => a5.2.1 (by rw [← e]; rfl)
    rw [heap_setCell_other _ ⟨gl, i * 2 + 1, none⟩ g _ (Ne.symm hne), heap_setCell_other w ⟨gl, i * 2, none⟩ g _ (Ne.symm hne)]
    exact a1
  · rw [List.length_set]
    exact own_ent_set a3 i a b hi
end
/-- A pool within a set of blocks. -/
def Pk (w : World) (S : Nat → Prop) (g n : Nat) (gs fr : List Nat) (lv : List (Nat × Nat)) : Prop := ∃ vg vl vf, Pm w g n vg vl vf gs fr lv ∧ S g ∧ In S vg ∧ In S vl ∧ In S vf
section
variable {w w' w2 : World} {S T : Nat → Prop} {g n : Nat} {gs fr : List Nat} {lv : List (Nat × Nat)}
theorem Pk.mono (h : Pk w S g n gs fr lv) (hs : ∀ k, S k → T k) : Pk w T g n gs fr lv := by
  obtain ⟨vg, vl, vf, h1, h2, h3, h4, h5⟩ := h
  exact ⟨vg, vl, vf, h1, hs g h2, h3.mono hs, h4.mono hs, h5.mono hs⟩
theorem Pk.frame (h : Pk w S g n gs fr lv) (hm : Mv w w' T) (hs : ∀ k, S k → ¬ T k) : Pk w' S g n gs fr lv := by
  obtain ⟨vg, vl, vf, h1, h2, h3, h4, h5⟩ := h
  exact ⟨vg, vl, vf, h1.frame hm (hs g h2) (fun k e => hs k (h3 k e)) (fun k e => hs k (h4 k e)) (fun k e => hs k (h5 k e)), h2, h3, h4, h5⟩
theorem Pk.later (h : Pk w S g n gs fr lv) (hb : Below w.heap.size w w') : Pk w' S g n gs fr lv := h.frame (Mv.of_below hb (fun _ => False)) (fun _ _ e => e)
theorem Pk.twice (hsz : w.heap.size ≤ w'.heap.size) (h : Pk w2 (Nw w' (Nw w S)) g n gs fr lv) : Pk w2 (Nw w S) g n gs fr lv := h.mono (Nw.twice hsz)
end

/-! ### What it tells -/
/-- Who lives, of what State tells. -/
def on (gs fr : List Nat) (i : Nat) : Bool := decide (gs.getD i 0 ≤ 1000000) && !fr.contains i
def lvOf (gs fr : List Nat) : List (Nat × Nat) := (List.range gs.length).map fun i => if on gs fr i then (i, gs.getD i 0) else (0, 0)
theorem lvOf_len (gs fr : List Nat) : (lvOf gs fr).length = gs.length := by simp [lvOf]
theorem lvOf_at (gs fr : List Nat) (i : Nat) (h : i < gs.length) : (lvOf gs fr)[i]'(by rw [lvOf_len]; exact h) = if on gs fr i then (i, gs.getD i 0) else (0, 0) := by simp [lvOf]
/-- What may be told. -/
def Ok (n : Nat) (gs fr : List Nat) : Prop := 1 ≤ n ∧ n ≤ 200 ∧ gs.length ≤ n ∧ (∀ x ∈ gs, 1 ≤ x ∧ x ≤ 1000001) ∧ fr.Nodup ∧ ∀ i ∈ fr, i < gs.length ∧ gs.getD i 0 ≤ 999999
theorem Ok.gen {n : Nat} {gs fr : List Nat} (h : Ok n gs fr) (i : Nat) (hi : i < gs.length) : 1 ≤ gs.getD i 0 ∧ gs.getD i 0 ≤ 1000001 := by
  have := h.2.2.2.1 gs[i] (List.getElem_mem hi)
  simpa [hi] using this
/-- A pool that is whole. -/
def Pl (w : World) (S : Nat → Prop) (g n : Nat) (gs fr : List Nat) : Prop := Pk w S g n gs fr (lvOf gs fr) ∧ Ok n gs fr
section
variable {w w' : World} {S T : Nat → Prop} {g n : Nat} {gs fr : List Nat}
theorem Pl.mono (h : Pl w S g n gs fr) (hs : ∀ k, S k → T k) : Pl w T g n gs fr := ⟨h.1.mono hs, h.2⟩
theorem Pl.frame (h : Pl w S g n gs fr) (hm : Mv w w' T) (hs : ∀ k, S k → ¬ T k) : Pl w' S g n gs fr := ⟨h.1.frame hm hs, h.2⟩
theorem Pl.later (h : Pl w S g n gs fr) (hb : Below w.heap.size w w') : Pl w' S g n gs fr := ⟨h.1.later hb, h.2⟩
end
/-- An entity's value, and whether it lives under this number. -/
def ev (p : Nat × Nat) : Value := .agg #[.int .i64 (p.1 : Int), .int .i64 (p.2 : Int)]

/-! ### Calls that read -/
set_option maxHeartbeats 1000000 in
theorem i_new_bad (x : Int) (w : World) (h : x < 1 ∨ x > 200) : Calls Tryz.prog 72 #[.int .i64 x] w fun e w' => e = .returned (.tuple #[.pointer none, .int .i64 1]) ∧ w' = w := by
  by_cases h1 : x < 1
  · go_enter Tryz.func72, Tryz.ntmps72
    go_wp2_with fail
    go_ret2
    exact ⟨rfl, rfl⟩
  · have h2 : x > 200 := by omega
    clear h
    go_enter Tryz.func72, Tryz.ntmps72
    go_wp2_with fail
    go_ret2
    exact ⟨rfl, rfl⟩
set_option maxHeartbeats 1000000 in
theorem i_new_any (n : Nat) (w : World) (h1 : 1 ≤ n) (h2 : n ≤ 200) : Calls Tryz.prog 72 #[.int .i64 (n : Int)] w fun e w' => e = .returned (.tuple #[.pointer (some ⟨w.heap.size, 0, none⟩), .int .i64 0]) ∧ Pl w' (fun k => k = w.heap.size) w.heap.size n [] [] ∧ Below w.heap.size w w' := by
  have t1 : ¬ (n : Int) < 1 := by omega
  have t2 : ¬ (n : Int) > 200 := by omega
  go_enter Tryz.func72, Tryz.ntmps72
  go_wp2_with fail
  go_ret2
  refine ⟨rfl, ⟨⟨.slice none 0 0, .slice none 0 0, .slice none 0 0, ⟨heap_alloc_new w _, World.ownsRow_nil _ _ _ _, World.ownsRow_nil _ _ _ _, World.ownsRow_nil _ _ _ _, ?_, ?_, ?_, ?_⟩, rfl, In.nil _, In.nil _, In.nil _⟩, h1, h2, by simp, by simp, by simp, by simp⟩, below_alloc w _⟩
  · simp [Value.ownBlock]
  all_goals
    intro k e
    simp [Value.ownBlock] at e
end Go.Proofs.YtafmiolehlagkaaGreat

/-
  At and Lives.
-/
namespace Go.Proofs.YtafmiolehlagkaaGreat
open Go.RowKit
set_option maxRecDepth 100000
set_option maxHeartbeats 1000000 in
theorem at_neg (x : Int) (g n : Nat) (vg vl vf : Value) (gs fr : List Nat) (lv : List (Nat × Nat)) (w : World) (_h : Pm w g n vg vl vf gs fr lv) (hx : x < 0) :
    Calls Tryz.prog 131 #[.pointer (some ⟨g, 0, none⟩), .int .i64 x] w fun e w' => e = .returned (.tuple #[ev (0, 0), .int .i64 41]) ∧ Below w.heap.size w w' := by
  go_enter Tryz.func131, Tryz.ntmps131
  go_wp2_with fail
  (try simp only [Exit.inBlock, Exit.then])
  refine bodyPost_ret (v := .tuple #[ev (0, 0), .int .i64 41]) ?_ rfl ⟨rfl, below_alloc w _⟩
  rw [results_cell_tmp rfl]
  go_simp
  rfl
set_option maxHeartbeats 1000000 in
theorem at_far (x : Int) (g n : Nat) (vg vl vf : Value) (gs fr : List Nat) (lv : List (Nat × Nat)) (w : World) (h : Pm w g n vg vl vf gs fr lv) (hx : 0 ≤ x) (hx2 : (lv.length : Int) ≤ x) :
    Calls Tryz.prog 131 #[.pointer (some ⟨g, 0, none⟩), .int .i64 x] w fun e w' => e = .returned (.tuple #[ev (0, 0), .int .i64 41]) ∧ Below w.heap.size w w' := by
  have c2 : ∀ o, (w.alloc o).cell? ⟨g, 2, none⟩ = some vl := fun o => (h.later (below_alloc w o)).cell.2.2.1
  obtain ⟨ao, c, rfl⟩ := own_len h.2.2.1
  clear h
  have t1 : ¬ x < 0 := by omega
  go_enter Tryz.func131, Tryz.ntmps131
  go_wp2_with fail
  (try simp only [Exit.inBlock, Exit.then])
  refine bodyPost_ret (v := .tuple #[ev (0, 0), .int .i64 41]) ?_ rfl ⟨rfl, below_alloc w _⟩
  rw [results_cell_tmp rfl]
  go_simp
  rfl
set_option maxHeartbeats 1000000 in
theorem at_in (x g n : Nat) (vg vl vf : Value) (gs fr : List Nat) (lv : List (Nat × Nat)) (w : World) (h : Pm w g n vg vl vf gs fr lv) (hx : x < lv.length) :
    Calls Tryz.prog 131 #[.pointer (some ⟨g, 0, none⟩), .int .i64 (x : Int)] w fun e w' => e = .returned (.tuple #[ev (lv[x]), .int .i64 (if lv[x] = (0, 0) then 41 else 0)]) ∧ Below w.heap.size w w' := by
  have c2 : ∀ o, (w.alloc o).cell? ⟨g, 2, none⟩ = some vl := fun o => (h.later (below_alloc w o)).cell.2.2.1
  obtain ⟨gl, c, rfl, hc1, hc2⟩ := own_form h.2.2.1 (by omega)
  have e1 : ∀ o, (w.alloc o).cell? ⟨gl, x * 2, none⟩ = some (.int .i64 (lv[x].1 : Int)) := fun o => (i_own_ent (h.later (below_alloc w o)).2.2.1 x hx).1
  have e2 : ∀ o, (w.alloc o).cell? ⟨gl, x * 2 + 1, none⟩ = some (.int .i64 (lv[x].2 : Int)) := fun o => (i_own_ent (h.later (below_alloc w o)).2.2.1 x hx).2
  generalize lv[x] = p at *
  obtain ⟨a, b⟩ := p
  clear h
  have t1 : ¬ (x : Int) < 0 := by omega
  have t2 : (x : Int) < (lv.length : Int) := by omega
  have t3 : ¬ (lv.length : Int) ≤ (x : Int) := by omega
  go_enter Tryz.func131, Tryz.ntmps131
  go_wp2_with fail
  all_goals
    (try simp only [Exit.inBlock, Exit.then])
    refine bodyPost_ret (v := .tuple #[ev (_, _), .int .i64 _]) ?_ rfl ⟨rfl, below_alloc w _⟩
    rw [results_cell_tmp rfl]
    go_simp
    rfl
/-- Who lives under a number. -/
def isOn (gs fr : List Nat) (x : Int) : Bool := decide (0 ≤ x) && decide (x.toNat < gs.length) && on gs fr x.toNat
def atOf (gs fr : List Nat) (x : Int) : Nat × Nat := if isOn gs fr x then (x.toNat, gs.getD x.toNat 0) else (0, 0)
theorem at_any {w : World} {S : Nat → Prop} {g n : Nat} {gs fr : List Nat} (x : Int) (h : Pl w S g n gs fr) :
    Calls Tryz.prog 131 #[.pointer (some ⟨g, 0, none⟩), .int .i64 x] w fun e w' => e = .returned (.tuple #[ev (atOf gs fr x), .int .i64 (if isOn gs fr x then 0 else 41)]) ∧ Below w.heap.size w w' := by
  obtain ⟨⟨vg, vl, vf, hp, _⟩, ho⟩ := h
  by_cases h0 : 0 ≤ x
  · by_cases h1 : x.toNat < gs.length
    · obtain ⟨i, rfl⟩ : ∃ i : Nat, x = (i : Int) := ⟨x.toNat, by omega⟩
      have hi : i < gs.length := by omega
      refine (at_in i g n vg vl vf gs fr _ w hp (by rw [lvOf_len]; exact hi)).mono ?_
      rw [lvOf_at gs fr i hi]
      have hg := ho.gen i hi
      cases hon : on gs fr i with
      | true =>
        have e : isOn gs fr (i : Int) = true := by simp [isOn, hon, hi]
        simp only [atOf, e]
        have hne : ¬ (i, gs.getD i 0) = (0, 0) := fun hh => by
          have := congrArg Prod.snd hh
          simp only at this
          omega
        simp only [if_true, hne, if_false, Int.toNat_natCast]
        exact fun _ _ hh => hh
      | false =>
        have e : isOn gs fr (i : Int) = false := by simp [isOn, hon]
        simp only [atOf, e]
        exact fun _ _ hh => hh
    · have e : isOn gs fr x = false := by simp [isOn, h1]
      simp only [atOf, e]
      exact at_far x g n vg vl vf gs fr _ w hp h0 (by rw [lvOf_len]; omega)
  · have e : isOn gs fr x = false := by simp [isOn, h0]
    simp only [atOf, e]
    exact at_neg x g n vg vl vf gs fr _ w hp (by omega)
def livesOf (gs fr : List Nat) (a b : Int) : Bool := isOn gs fr a && decide (((gs.getD a.toNat 0 : Nat) : Int) = b)
set_option maxHeartbeats 1000000 in
theorem lives_any {w : World} {S : Nat → Prop} {g n : Nat} {gs fr : List Nat} (a b : Int) (h : Pl w S g n gs fr) :
    Calls Tryz.prog 87 #[.pointer (some ⟨g, 0, none⟩), .agg #[.int .i64 a, .int .i64 b]] w fun e w' => e = .returned (.bool (livesOf gs fr a b)) ∧ Below w.heap.size w w' := by
  have HA := hide (at_any a (h.later (below_alloc w (.cells #[.int .i64 a, .int .i64 b] 29))))
  clear h
  obtain ⟨p, hp⟩ : ∃ p, p = atOf gs fr a := ⟨_, rfl⟩
  rw [← hp] at HA
  cases hon : isOn gs fr a with
  | false =>
    rw [hon] at HA
    have HR : Hid (livesOf gs fr a b = false) := by simp [Hid, livesOf, hon]
    clear hp hon
    go_enter Tryz.func87, Tryz.ntmps87
    go_wp2_with fail
    refine HA.out.mono ?_
    rintro e w1 ⟨rfl, hb⟩
    have HB := hide (below_on (below_alloc w _) hb)
    clear hb HA
    unfold ev
    go_wp2_with fail
    go_ret
    rw [HR.out]
    exact ⟨rfl, below_on HB.out (below_alloc w1 _)⟩
  | true =>
    rw [hon] at HA
    have hx : p = (a.toNat, gs.getD a.toNat 0) := by rw [hp, atOf, hon]; rfl
    have h0 : 0 ≤ a := by
      have := hon
      simp [isOn] at this
      exact this.1.1
    have HR : Hid (livesOf gs fr a b = decide ((p.2 : Int) = b)) := by simp [Hid, livesOf, hon, hx]
    have h1 : (p.1 : Int) = a := by rw [hx]; simp; omega
    obtain ⟨p1, p2⟩ := p
    simp only at h1 HR
    subst h1
    clear hp hx hon
    go_enter Tryz.func87, Tryz.ntmps87
    go_wp2_with fail
    refine HA.out.mono ?_
    rintro e w1 ⟨rfl, hb⟩
    have c0 : ∀ o, (w1.alloc o).cell? ⟨w.heap.size, 0, none⟩ = some (.int .i64 (p1 : Int)) := fun o => by
      rw [(below_on hb (below_alloc w1 o)).cell (p := ⟨w.heap.size, 0, none⟩) (by simp)]
      simp
    have c1 : ∀ o, (w1.alloc o).cell? ⟨w.heap.size, 1, none⟩ = some (.int .i64 b) := fun o => by
      rw [(below_on hb (below_alloc w1 o)).cell (p := ⟨w.heap.size, 1, none⟩) (by simp)]
      simp
    have HB := hide (below_on (below_alloc w _) hb)
    clear hb HA
    unfold ev
    go_wp2_with fail
    all_goals
      go_ret
      rw [HR.out]
      refine ⟨?_, below_on HB.out (below_alloc w1 _)⟩
      simp [*]
end Go.Proofs.YtafmiolehlagkaaGreat

/-
  slices.Clone, slices.Delete, State.
-/
namespace Go.Proofs.YtafmiolehlagkaaGreat
open Go.RowKit
set_option maxRecDepth 100000
set_option maxHeartbeats 1000000 in
theorem i_clone_any (v : Value) (n : Nat) (l : List Nat) (w : World) (h : w.ownsRow 0 3 1 v n (ic l)) (hn : n ≤ 1000000) :
    Calls Tryz.prog 110 #[v] w fun e w' => ∃ v', e = .returned v' ∧ w'.ownsRow w.heap.size 3 1 v' n (ic l) ∧ Below w.heap.size w w' := by
  obtain ⟨i0, hi, hz0, hz1, hz2⟩ := info_parts info3
  have hl : n = l.length := by have := h.1; rw [ic_len] at this; omega
  have q33 : ∀ (w : World) (a : Option Addr) (n c n' c' : Nat), (binOp .eql 45 (.slice a n c) (.slice none n' c')).run Tryz.prog w = .ok (.bool a.isNone) w := fun w a n c n' c' => Lib.run_eql_slice_nil w _ _ a n c n' c' Tryz.underlying45
  subst hl
  rcases h.2 with ⟨rfl, hl⟩ | ⟨g, cap, cur, rfl, -, hg, h1, h2, hcs, htake⟩
  · obtain rfl : l = [] := List.eq_nil_of_length_eq_zero (by omega)
    clear h hl
    go_enter Tryz.func110, Tryz.ntmps110
    go_wp2_with fail
    go_ret
    exact ⟨_, rfl, World.ownsRow_nil _ _ _ _, Below.refl _ _⟩
  · have H := hide h
    clear h hg hcs htake
    go_enter Tryz.func110, Tryz.ntmps110
    go_wp2_with (at_builtin; refine wpList_append_own_at _ rfl _ _ 45 rfl w.heap.size 3 i0 (.int .i64 0) 1 8 Tryz.underlying45 hi hz0 hz1 hz2 rfl (by decide) _ 0 [] rfl (World.ownsRow_lit w #[] 0 (Nat.le_refl _) (Nat.zero_le _) rfl) ⟨g, 0, none⟩ l.length cap (ic l) rfl (by rw [ic_len]; omega) ?c1 (ic_one l) (by unfold maxLen; omega) (by omega) (by simp) ?_)
    case c1 => exact (H.out.alloc _).cells rfl
    intro v' w' ho hg _ _
    obtain ⟨ao, c, rfl⟩ := own_len ho
    have HO := hide ho
    have HG := hide hg
    clear ho hg
    go_wp2_with fail
    go_ret
    refine ⟨_, rfl, ?_, (below_alloc w _).grown HG.out (by simp) (fun k e => ?_)⟩
    · have := HO.out
      simpa using this
    · simp [Value.ownBlock] at e
      omega
theorem step_append_fits {P : Program} (w : World) {ops : Array Oper} {o : Oper} {a : Act} {K : Act → World → Prop} {Q : Exit → Act → World → Prop} {E : Prop} (hgd : o.guard = none) (s x : Operand) (t : TypeId)
    (ho : o.op = .call { callee := .builtin .append, args := #[s, x], argTypes := #[t, t] })
    (base : Nat) (e : TypeId) (i : TypeInfo) (size : Nat) (ht : P.underlying t = some (.slice e)) (hi : P.info? e = some i) (hsize : i.size = size)
    (g n cap : Nat) (xs : List Value) (hs : a.eval s = .slice (some ⟨g, 0, none⟩) n cap) (hown : w.ownsRow base e size (.slice (some ⟨g, 0, none⟩) n cap) n xs)
    (ad : Addr) (m c : Nat) (news : List Value) (hx : a.eval x = .slice (some ad) m c) (hl : news.length = m * size) (hnews : ∀ j u, news[j]? = some u → w.cell? (ad.add j) = some u) (h1 : ∀ u ∈ news, u.oneCell' = true)
    (hroom : n + m ≤ cap)
    (h : ∀ w', w'.ownsRow base e size (.slice (some ⟨g, 0, none⟩) (n + m) cap) (n + m) (xs ++ news) → w.grownBy w' (some g) → K (a.put o.dst (.slice (some ⟨g, 0, none⟩) (n + m) cap)) w') :
    if Region.wanted o (yielded ops a.tmps) = true then Oper.wp P o a w K Q else E := by
  have hw : Region.wanted o (yielded ops a.tmps) = true := by simp [Region.wanted, hgd]
  rw [if_pos hw]
  obtain ⟨w', hr, h2, h3⟩ := run_append_fits (P := P) w base t o.type e i size ht hi hsize g n cap xs hown ad m c news hl hnews h1 hroom
  unfold Oper.wp execOp
  simp only [ho, resolve, invoke, builtin, Sem.run_bind, Sem.run_pure, Result.andThen_ok, List.map_toArray, List.map_cons, List.map_nil, hs, hx, hr]
  exact h w' h2 h3
theorem own_cut {w : World} {B g c m k e : Nat} {xs : List Value} (h : w.ownsRow B e 1 (.slice (some ⟨g, 0, none⟩) m c) m xs) (hk : k ≤ m) : w.ownsRow B e 1 (.slice (some ⟨g, 0, none⟩) k c) k (xs.take k) := by
  have hlen := h.1
  rcases h.2 with ⟨h', _⟩ | ⟨gv', c', cur, h', hb, hg, h1, h2, h3, h4⟩
  · simp at h'
  · simp only [Value.slice.injEq, Option.some.injEq, Addr.mk.injEq, and_true, true_and] at h'
    obtain ⟨rfl, rfl⟩ := h'
    refine ⟨by rw [List.length_take]; omega, .inr ⟨g, c, cur, rfl, hb, hg, by omega, h2, h3, ?_⟩⟩
    rw [← h4, List.take_take]
    congr 1
    omega
/-- What lies behind the length. -/
theorem own_spare {w : World} {B g c m j e : Nat} {xs : List Value} (h : w.ownsRow B e 1 (.slice (some ⟨g, 0, none⟩) m c) m xs) (hj : j < c) : (∃ u, w.cell? ⟨g, j, none⟩ = some u) ∧ w.frozen? ⟨g, j, none⟩ = false := by
  rcases h.2 with ⟨h', _⟩ | ⟨gv', c', cur, h', hb, hg, h1, h2, h3, h4⟩
  · simp at h'
  · simp only [Value.slice.injEq, Option.some.injEq, Addr.mk.injEq, and_true, true_and] at h'
    obtain ⟨rfl, rfl⟩ := h'
    refine ⟨⟨cur[j]'(by omega), ?_⟩, frozen_of_row w g j _ e hg⟩
    rw [cell_of_row w g j cur e (0, 0) hg, Array.getElem?_eq_getElem]
theorem own_beyond {w : World} {B g c m j e : Nat} {xs : List Value} {u : Value} (h : w.ownsRow B e 1 (.slice (some ⟨g, 0, none⟩) m c) m xs) (hj : m ≤ j) : (w.setCell ⟨g, j, none⟩ u).ownsRow B e 1 (.slice (some ⟨g, 0, none⟩) m c) m xs := by
  have := (h.stored j u).1
  rwa [List.set_eq_of_length_le (by have := h.1; omega)] at this
set_option maxHeartbeats 1000000 in
theorem delete_first (g c x : Nat) (l : List Nat) (w : World) (h : w.ownsRow 0 3 1 (.slice (some ⟨g, 0, none⟩) (l.length + 1) c) (l.length + 1) (ic (x :: l))) (hn : l.length ≤ 1000000) :
    Calls Tryz.prog 182 #[.slice (some ⟨g, 0, none⟩) (l.length + 1) c, .int .i64 0, .int .i64 1] w fun e w' => e = .returned (.slice (some ⟨g, 0, none⟩) l.length c) ∧ w'.ownsRow 0 3 1 (.slice (some ⟨g, 0, none⟩) l.length c) l.length (ic l) ∧ Mv w w' (fun k => k = g) := by
  obtain ⟨i0, hi, hz0, hz1, hz2⟩ := info_parts info3
  obtain ⟨hc1, hc2⟩ := own_cap h
  have t1 : (1 : Int) ≤ (l.length : Int) + 1 := by omega
  have t2 : (l.length : Int) + 1 ≤ (c : Int) := by omega
  have HC : Hid (w.drew.ownsRow 0 3 1 (.slice (some ⟨g, 0, none⟩) 0 c) 0 []) := own_cut (k := 0) h (by omega)
  have HN : Hid (∀ j u, (ic l)[j]? = some u → w.drew.cell? ((⟨g, 1, none⟩ : Addr).add j) = some u) := fun j u hj => by
    have hjl : j < l.length := by rw [← ic_len]; exact (List.getElem?_eq_some_iff.1 hj).1
    have := h.cellAt (j + 1) (by omega)
    rw [WideShapes.add_plain, Nat.add_comm]
    refine this.trans ?_
    rw [← hj]
    simp [ic]
  have K : Hid (∀ w9 : World, w9.ownsRow 0 3 1 (.slice (some ⟨g, 0, none⟩) (0 + l.length) c) (0 + l.length) ([] ++ ic l) → w.drew.grownBy w9 (some g) → (w9.ownsRow 0 3 1 (.slice (some ⟨g, 0, none⟩) l.length c) l.length (ic l) ∧ Mv w w9 (fun k => k = g)) ∧ (∃ u, w9.cell? ⟨g, l.length, none⟩ = some u) ∧ w9.frozen? ⟨g, l.length, none⟩ = false) := fun w9 h1 h2 => by
    rw [Nat.zero_add, List.nil_append] at h1
    have := own_spare (j := l.length) h1 (by omega)
    exact ⟨⟨h1, (Mv.of_below (below_drew w) _).grown h2 (fun k _ e => by cases e; rfl)⟩, this⟩
  have CL : Hid (∀ w9 : World, (∃ u, w9.cell? ⟨g, l.length, none⟩ = some u) → w9.frozen? ⟨g, l.length, none⟩ = false → ∀ ty k, (Builtin.clear_ #[45] ty #[.slice (some ⟨g, l.length, none⟩) 1 k]).run Tryz.prog w9 = .ok (.tuple #[]) (w9.setCell ⟨g, l.length, none⟩ (.int .i64 0))) := fun w9 h1 h2 ty k => by
    refine Lib.run_clear_slice w9 45 3 ty (.int .i64 0) Tryz.underlying45 (fun W => ?_) rfl rfl g l.length 1 k (by omega) (fun j hj => ?_) (fun j hj => ?_)
    · simp [zeroValue, typeInfo, hi, hz0]
    · obtain rfl : j = 0 := by omega
      obtain ⟨u, hu⟩ := h1
      simp [hu]
    · obtain rfl : j = 0 := by omega
      simpa using h2
  have u1 : ¬ c = l.length := by omega
  have u2 : l.length ≤ c := by omega
  have u3 : (l.length : Int) ≤ (l.length : Int) + 1 := by omega
  have u4 : l.length + 1 - l.length = 1 := by omega
  clear h
  by_cases hc : c = 1
  · have hl0 : l.length = 0 := by omega
    obtain rfl : l = [] := List.eq_nil_of_length_eq_zero hl0
    subst hc
    clear u1 u2 u3 u4 hl0
    go_enter Tryz.func182, Tryz.ntmps182
    go_wp2_with fail
    go_region_law (refine step_append_fits _ rfl (.tmp 22) (.tmp 25) 45 rfl 0 3 i0 1 Tryz.underlying45 hi hz1 g 0 1 [] (by simp [Act.eval, Act.put]) HC.out ⟨g, 0, none⟩ 0 0 [] (by simp [Act.eval, Act.put]) rfl (fun j u hj => by simp at hj) (fun u hu => by simp at hu) (by omega) ?_; intro w9 ho9 hg9; obtain ⟨hk9, hu, hf9⟩ := K.out w9 ho9 hg9; have HK9 := hide hk9; have hcl := CL.out w9 hu hf9; clear ho9 hg9 hk9)
    all_goals
      simp only [List.length_nil] at hcl hu hf9
      go_wp2_with fail
      go_ret
      refine ⟨rfl, own_beyond HK9.out.1 (Nat.le_refl _), HK9.out.2.set rfl _ _⟩
  · go_enter Tryz.func182, Tryz.ntmps182
    go_wp2_with fail
    go_region_law (refine step_append_fits _ rfl (.tmp 22) (.tmp 25) 45 rfl 0 3 i0 1 Tryz.underlying45 hi hz1 g 0 c [] (by simp [Act.eval, Act.put]) HC.out ⟨g, 1, none⟩ l.length (c - 1) (ic l) (by simp [Act.eval, Act.put]) (by rw [ic_len]; omega) HN.out (ic_one l) (by omega) ?_; intro w9 ho9 hg9; obtain ⟨hk9, hu, hf9⟩ := K.out w9 ho9 hg9; have HK9 := hide hk9; have hcl := CL.out w9 hu hf9; clear ho9 hg9 hk9)
    all_goals
      go_wp2_with fail
      go_ret
      refine ⟨rfl, own_beyond HK9.out.1 (Nat.le_refl _), HK9.out.2.set rfl _ _⟩
end Go.Proofs.YtafmiolehlagkaaGreat

/-
  State.
-/
namespace Go.Proofs.YtafmiolehlagkaaGreat
open Go.RowKit
set_option maxRecDepth 100000
theorem nodup_len : ∀ (n : Nat) (l : List Nat), l.Nodup → (∀ x ∈ l, x < n) → l.length ≤ n
  | 0, l, _, h => by
    cases l with
    | nil => simp
    | cons x t => have := h x (by simp); omega
  | n + 1, l, hd, h => by
    by_cases hn : n ∈ l
    · have := nodup_len n (l.erase n) (hd.erase n) (fun x hx => by
        have h1 := hd.mem_erase_iff.1 hx
        have := h x h1.2
        have := h1.1
        omega)
      rw [List.length_erase_of_mem hn] at this
      omega
    · have := nodup_len n l hd (fun x hx => by
        have h1 := h x hx
        have : x ≠ n := fun e => hn (e ▸ hx)
        omega)
      omega
theorem Ok.free_len {n : Nat} {gs fr : List Nat} (h : Ok n gs fr) : fr.length ≤ gs.length := nodup_len _ _ h.2.2.2.2.1 (fun x hx => (h.2.2.2.2.2 x hx).1)
set_option maxHeartbeats 2000000 in
set_option maxRecDepth 100000 in
theorem state_pm (g n : Nat) (vg vl vf : Value) (gs fr : List Nat) (lv : List (Nat × Nat)) (w : World) (h : Pm w g n vg vl vf gs fr lv) (hg : gs.length ≤ 1000000) (hf : fr.length ≤ 1000000) :
    Calls Tryz.prog 50 #[.pointer (some ⟨g, 0, none⟩)] w fun e w' => ∃ v1 v2, e = .returned (.tuple #[v1, v2]) ∧ w'.ownsRow w.heap.size 3 1 v1 gs.length (ic gs) ∧ w'.ownsRow w.heap.size 3 1 v2 fr.length (ic fr) ∧ Ap v1 v2 ∧ Below w.heap.size w w' := by
  obtain ⟨c0, c1, c2, c3⟩ := h.cell
  have J1 : Hid (∀ W, Below w.heap.size w W → Calls Tryz.prog 110 #[vg] W fun e w' => ∃ v', e = .returned v' ∧ Hid (w'.ownsRow w.heap.size 3 1 v' gs.length (ic gs) ∧ Below w.heap.size w w') ∧ w'.cell? ⟨g, 1, none⟩ = some vg ∧ w'.cell? ⟨g, 3, none⟩ = some vf) := fun W hW =>
    (i_clone_any vg gs.length gs W (own_later h.2.1 hW) hg).mono (by
      rintro e w' ⟨v', rfl, ho, hb⟩
      have hx := below_on hW hb
      have hp := (h.later hx).cell
      exact ⟨v', rfl, ⟨own_lower ho hW.size, hx⟩, hp.2.1, hp.2.2.2⟩)
  have J2 : Hid (∀ W v1, W.ownsRow w.heap.size 3 1 v1 gs.length (ic gs) → Below w.heap.size w W → Calls Tryz.prog 110 #[vf] W fun e w' => ∃ v', e = .returned v' ∧ Hid (w'.ownsRow w.heap.size 3 1 v1 gs.length (ic gs) ∧ w'.ownsRow w.heap.size 3 1 v' fr.length (ic fr) ∧ Ap v1 v' ∧ Below w.heap.size w w') ∧ w'.cell? ⟨g, 1, none⟩ = some vg ∧ w'.cell? ⟨g, 3, none⟩ = some vf) := fun W v1 h1 hW =>
    (i_clone_any vf fr.length fr W (own_later h.2.2.2.1 hW) hf).mono (by
      rintro e w' ⟨v', rfl, ho, hb⟩
      have hx := below_on hW hb
      have hp := (h.later hx).cell
      refine ⟨v', rfl, ⟨own_later h1 hb, own_lower ho hW.size, fun k e1 e2 => ?_, hx⟩, hp.2.1, hp.2.2.2⟩
      have := (h1.lt k e1).2
      have := (ho.lt k e2).1
      omega)
  clear h
  go_enter Tryz.func50, Tryz.ntmps50
  go_wp2_with fail
  go_region_held3 (fun W => W.cell? ⟨g, 1, none⟩ = some vg ∧ W.cell? ⟨g, 3, none⟩ = some vf) (go_keep) (first | (go_at_call 110; refine (J1.out _ (below_drew w)).mono ?_; rintro e w1 ⟨v1, rfl, HH, d1, d3⟩) | (go_at_call 110; refine (J2.out _ _ HH.out.1 HH.out.2).mono ?_; rintro e w2 ⟨v2, rfl, HH2, d1', d3'⟩))
  all_goals
    go_wp2_with fail
    go_ret2
    exact ⟨_, _, rfl, HH2.out⟩
theorem state_any {w : World} {S : Nat → Prop} {g n : Nat} {gs fr : List Nat} (h : Pl w S g n gs fr) :
    Calls Tryz.prog 50 #[.pointer (some ⟨g, 0, none⟩)] w fun e w' => ∃ v1 v2, e = .returned (.tuple #[v1, v2]) ∧ w'.ownsRow w.heap.size 3 1 v1 gs.length (ic gs) ∧ w'.ownsRow w.heap.size 3 1 v2 fr.length (ic fr) ∧ Ap v1 v2 ∧ Below w.heap.size w w' := by
  obtain ⟨⟨vg, vl, vf, hp, _⟩, ho⟩ := h
  exact state_pm g n vg vl vf gs fr _ w hp (by have := ho.2.2.1; have := ho.2.1; omega) (by have := ho.free_len; have := ho.2.2.1; have := ho.2.1; omega)
end Go.Proofs.YtafmiolehlagkaaGreat

/-
  Give.
-/
namespace Go.Proofs.YtafmiolehlagkaaGreat
open Go.RowKit
set_option maxRecDepth 100000
/-- The free row grows. -/
theorem Pm.grow_free {w W W' : World} {g n g9 c9 x : Nat} {vg vl vf : Value} {gs fr : List Nat} {lv : List (Nat × Nat)} (h : Pm w g n vg vl vf gs fr lv) (hb : Below w.heap.size w W) (ho : W'.ownsRow 0 3 1 (.slice (some ⟨g9, 0, none⟩) (fr.length + 1) c9) (fr.length + 1) (ic fr ++ [.int .i64 (x : Int)])) (hg : W.grownBy W' vf.ownBlock) (ha : vf.ownBlock = some g9 ∨ g9 = W.heap.size) :
    W'.heap[g]? = some (.cells #[.int .i64 (n : Int), vg, vl, vf] 163 (0, 0)) ∧ Pm (W'.setCell ⟨g, 3, none⟩ (.slice (some ⟨g9, 0, none⟩) (fr.length + 1) c9)) g n vg vl (.slice (some ⟨g9, 0, none⟩) (fr.length + 1) c9) gs (fr ++ [x]) lv ∧ (∀ k, (Value.slice (some ⟨g9, 0, none⟩) (fr.length + 1) c9).ownBlock = some k → vf.ownBlock = some k ∨ w.heap.size ≤ k) ∧ Mv w (W'.setCell ⟨g, 3, none⟩ (.slice (some ⟨g9, 0, none⟩) (fr.length + 1) c9)) (fun k => k = g ∨ vf.ownBlock = some k) := by
  have hW := h.later hb
  have hlt := h.lt
  have hsz := hb.size
  obtain ⟨a1, a2, a3, a4, ⟨a5, a6, a7⟩, a8, a9, a10⟩ := hW
  have hg1 : W'.heap[g]? = some (.cells #[.int .i64 (n : Int), vg, vl, vf] 163 (0, 0)) := (hg.block g (by omega) (fun e => a7 e.symm)).trans a1
  have n3 : (Value.slice (some ⟨g9, 0, none⟩) (fr.length + 1) c9).ownBlock ≠ some g := fun e => by
    simp only [Value.ownBlock, Option.some.injEq] at e
    rcases ha with h | h
    · exact a7 (by rw [h, e])
    · omega
  have loc : ∀ k, (Value.slice (some ⟨g9, 0, none⟩) (fr.length + 1) c9).ownBlock = some k → vf.ownBlock = some k ∨ W.heap.size ≤ k := fun k e => by
    simp only [Value.ownBlock, Option.some.injEq] at e
    rcases ha with h | h
    · exact .inl (by rw [h, e])
    · exact .inr (by omega)
  refine ⟨hg1, ⟨?_, own_set (own_kept a2 hg (fun k e1 e2 => a9 k e1 e2)) a5, own_set (own_kept a3 hg (fun k e1 e2 => a10 k e1 e2)) a6, ?_, ⟨a5, a6, n3⟩, a8, fun k e1 e2 => ?_, fun k e1 e2 => ?_⟩, fun k e => (loc k e).imp id (fun h => by omega), ((Mv.of_below hb _).grown hg (fun k _ e => .inr e)).set (.inl rfl) _ _⟩
  · rw [heap_setCell_same W' g 3 _ 163 _ hg1]
    rfl
  · rw [List.length_append, ic_append]
    exact own_set ho n3
  · rcases loc k e2 with h | h
    · exact a9 k e1 h
    · have := (a2.lt k e1).2
      omega
  · rcases loc k e2 with h | h
    · exact a10 k e1 h
    · have := (a3.lt k e1).2
      omega
set_option maxHeartbeats 1000000 in
theorem give_stale {w : World} {S : Nat → Prop} {g n : Nat} {gs fr : List Nat} (a b : Int) (h : Pl w S g n gs fr) (hl : livesOf gs fr a b = false) :
    Calls Tryz.prog 86 #[.pointer (some ⟨g, 0, none⟩), .agg #[.int .i64 a, .int .i64 b]] w fun e w' => e = .returned (.int .i64 41) ∧ Below w.heap.size w w' := by
  have HL := hide (lives_any a b (h.later (below_alloc w (.cells #[.int .i64 a, .int .i64 b] 29))))
  rw [hl] at HL
  clear h hl
  go_enter Tryz.func86, Tryz.ntmps86
  go_wp2_with fail
  refine HL.out.mono ?_
  rintro e w1 ⟨rfl, hb⟩
  have HB := hide (below_on (below_alloc w _) hb)
  clear hb HL
  go_wp2_with fail
  go_ret
  exact ⟨rfl, HB.out⟩
set_option maxHeartbeats 4000000 in
set_option maxRecDepth 100000 in
theorem give_walk (g n i y : Nat) (vg vl vf : Value) (gs fr : List Nat) (lv : List (Nat × Nat)) (w : World) (h : Pm w g n vg vl vf gs fr lv) (hi : i < gs.length) (hil : i < lv.length) (hfl : fr.length ≤ 1000000)
    (hL : Calls Tryz.prog 87 #[.pointer (some ⟨g, 0, none⟩), .agg #[.int .i64 (i : Int), .int .i64 (y : Int)]] (w.alloc (.cells #[.int .i64 (i : Int), .int .i64 (y : Int)] 29)) fun e w' => e = .returned (.bool true) ∧ Below (w.alloc (.cells #[.int .i64 (i : Int), .int .i64 (y : Int)] 29)).heap.size (w.alloc (.cells #[.int .i64 (i : Int), .int .i64 (y : Int)] 29)) w') :
    Calls Tryz.prog 86 #[.pointer (some ⟨g, 0, none⟩), .agg #[.int .i64 (i : Int), .int .i64 (y : Int)]] w fun e w' => e = .returned (.int .i64 0) ∧ ∃ vf', Pm w' g n vg vl vf' (if y = 1000000 then gs.set i 1000001 else gs) (if y = 1000000 then fr else fr ++ [i]) (lv.set i (0, 0)) ∧ (∀ k, vf'.ownBlock = some k → vf.ownBlock = some k ∨ w.heap.size ≤ k) ∧ Mv w w' (fun k => k = g ∨ vg.ownBlock = some k ∨ vl.ownBlock = some k ∨ vf.ownBlock = some k) := by
  obtain ⟨i3, hi3, hx0, hx1, hx2⟩ := info_parts info3
  obtain ⟨gg, cg, rfl, hg1, hg2⟩ := own_form h.2.1 (by omega)
  obtain ⟨gl, cl, rfl, hl1, hl2⟩ := own_form h.2.2.1 (by omega)
  obtain ⟨aof, cf, rfl⟩ := own_len h.2.2.2.1
  have hne : gg ≠ gl := fun e => h.2.2.2.2.2.1 gg rfl (by rw [e]; rfl)
  have hgl : gl ≠ g := fun e => h.2.2.2.2.1.2.1 (by rw [e]; rfl)
  have hll := (h.2.2.1.lt gl rfl).2
  have hlg := (h.2.1.lt gg rfl).2
  have hgw := h.lt
  have HL := hide hL
  have H := hide h
  clear hL h
  go_enter Tryz.func86, Tryz.ntmps86
  go_wp2_with fail
  refine HL.out.mono ?_
  rintro e w1 ⟨rfl, hb⟩
  have hb1 := below_on (below_alloc w (.cells #[.int .i64 (i : Int), .int .i64 (y : Int)] 29)) hb
  have hp1 := H.out.later hb1
  have bx : w1.heap[w.heap.size]? = some (.cells #[.int .i64 (i : Int), .int .i64 (y : Int)] 29 (0, 0)) := (hb.block w.heap.size (by simp)).trans (heap_alloc_new w _)
  obtain ⟨l1, l2⟩ := i_own_ent hp1.2.2.1 i hil
  have lf1 := hp1.2.2.1.frozenAt (i * 2)
  have lf2 := hp1.2.2.1.frozenAt (i * 2 + 1)
  have hp2 := hp1.set_live i 0 0 hil
  have bx2 : ((w1.setCell ⟨gl, i * 2, none⟩ (.int .i64 ((0 : Nat) : Int))).setCell ⟨gl, i * 2 + 1, none⟩ (.int .i64 ((0 : Nat) : Int))).heap[w.heap.size]? = some (.cells #[.int .i64 (i : Int), .int .i64 (y : Int)] 29 (0, 0)) := (heap_setCell_other _ ⟨gl, i * 2 + 1, none⟩ w.heap.size _ (by show w.heap.size ≠ gl; omega)).trans ((heap_setCell_other w1 ⟨gl, i * 2, none⟩ w.heap.size _ (by show w.heap.size ≠ gl; omega)).trans bx)
  have HM2 : Hid (Mv w ((w1.setCell ⟨gl, i * 2, none⟩ (.int .i64 ((0 : Nat) : Int))).setCell ⟨gl, i * 2 + 1, none⟩ (.int .i64 ((0 : Nat) : Int))) (fun k => k = g ∨ (Value.slice (some ⟨gg, 0, none⟩) gs.length cg).ownBlock = some k ∨ (Value.slice (some ⟨gl, 0, none⟩) lv.length cl).ownBlock = some k ∨ (Value.slice aof fr.length cf).ownBlock = some k)) := ((Mv.of_below hb1 _).set (g := gl) (.inr (.inr (.inl rfl))) _ _).set (g := gl) (.inr (.inr (.inl rfl))) _ _
  have ez : ((0 : Nat) : Int) = 0 := rfl
  rw [ez] at hp2 bx2 HM2
  have c := hp1.cell
  obtain ⟨-, c1, c2, c3⟩ := c
  obtain ⟨-, d1, d2, d3⟩ := hp2.cell
  have b0 : w1.cell? ⟨w.heap.size, 0, none⟩ = some (.int .i64 (i : Int)) := by rw [cell_of_row w1 w.heap.size _ _ 29 (0, 0) bx]; rfl
  have q0 : ((w1.setCell ⟨gl, i * 2, none⟩ (.int .i64 0)).setCell ⟨gl, i * 2 + 1, none⟩ (.int .i64 0)).cell? ⟨w.heap.size, 0, none⟩ = some (.int .i64 (i : Int)) := by rw [cell_of_row _ w.heap.size _ _ 29 (0, 0) bx2]; rfl
  have t1 : (i : Int) < (gs.length : Int) := by omega
  have t2 : (i : Int) < (lv.length : Int) := by omega
  have HP2 := hide hp2
  clear hb hp1 hp2 bx HL H
  go_upto_region 3 with fail
  go_region_held3 (fun W => W.cell? ⟨g, 2, none⟩ = some (.slice (some ⟨gl, 0, none⟩) lv.length cl) ∧ W.cell? ⟨w.heap.size, 0, none⟩ = some (.int .i64 (i : Int))) (go_keep) (fail)
  obtain ⟨w2, hw2⟩ : ∃ X, X = ((w1.setCell ⟨gl, i * 2, none⟩ (.int .i64 0)).setCell ⟨gl, i * 2 + 1, none⟩ (.int .i64 0)).drew := ⟨_, rfl⟩
  have HP3 : Hid (Pm w2 g n (.slice (some ⟨gg, 0, none⟩) gs.length cg) (.slice (some ⟨gl, 0, none⟩) lv.length cl) (.slice aof fr.length cf) gs fr (lv.set i (0, 0))) := hw2 ▸ HP2.out.later (below_drew _)
  have HM3 := hide (HM2.out.later (below_drew _))
  have bx3 : w2.heap[w.heap.size]? = some (.cells #[.int .i64 (i : Int), .int .i64 (y : Int)] 29 (0, 0)) := hw2 ▸ bx2
  rw [← hw2] at HM3 ⊢
  clear hw2 HM2 HP2 bx2 c1 c2 c3 d1 d2 d3 b0 q0 l1 l2 lf1 lf2 hb1
  obtain ⟨-, c1, c2, c3⟩ := HP3.out.cell
  have b0 : w2.cell? ⟨w.heap.size, 0, none⟩ = some (.int .i64 (i : Int)) := by rw [cell_of_row w2 w.heap.size _ _ 29 (0, 0) bx3]; rfl
  have b1 : w2.cell? ⟨w.heap.size, 1, none⟩ = some (.int .i64 (y : Int)) := by rw [cell_of_row w2 w.heap.size _ _ 29 (0, 0) bx3]; rfl
  by_cases hy : y = 1000000
  · subst hy
    have e1 := own_int HP3.out.2.1 i hi
    have f1 := HP3.out.2.1.frozenAt i
    have hp4 := HP3.out.set_gen i 1000001
    obtain ⟨-, d1, -, -⟩ := hp4.cell
    have q0 : (w2.setCell ⟨gg, i, none⟩ (.int .i64 ((1000001 : Nat) : Int))).cell? ⟨w.heap.size, 0, none⟩ = some (.int .i64 (i : Int)) := by
      rw [World.cell?_setCell_far _ ⟨gg, i, none⟩ _ _ (by show gg ≠ w.heap.size; omega)]
      exact b0
    have HM4 := hide (HM3.out.set (g := gg) (.inr (.inl rfl)) i (.int .i64 ((1000001 : Nat) : Int)))
    have ez : ((1000001 : Nat) : Int) = 1000001 := rfl
    rw [ez] at hp4 d1 q0 HM4
    have HP4 := hide hp4
    clear hp4
    go_upto_region 5 with fail
    go_region_held3 (fun W => W.cell? ⟨g, 1, none⟩ = some (.slice (some ⟨gg, 0, none⟩) gs.length cg) ∧ W.cell? ⟨w.heap.size, 0, none⟩ = some (.int .i64 (i : Int))) (go_keep) (fail)
    go_wp2_with fail
    go_ret
    exact ⟨rfl, _, HP4.out.later (below_drew _), fun k e => .inl e, HM4.out.later (below_drew _)⟩
  · have t3 : ((y : Int) == 1000000) = false := by rw [beq_eq_false_iff_ne]; omega
    have k3 : ∀ o, (w2.alloc o).cell? ⟨g, 3, none⟩ = some (.slice aof fr.length cf) := fun o => (HP3.out.later (below_alloc w2 o)).cell.2.2.2
    have HO : Hid ((w2.drew.alloc (.cells #[.int .i64 (i : Int)] 3)).ownsRow 0 3 1 (.slice aof fr.length cf) fr.length (ic fr)) := own_later HP3.out.2.2.2.1 (below_on (below_drew w2) (below_alloc _ _))
    have K9 : Hid (∀ (g9 c9 : Nat) (w9 : World), w9.ownsRow 0 3 1 (.slice (some ⟨g9, 0, none⟩) (fr.length + 1) c9) (fr.length + 1) (ic fr ++ [.int .i64 (i : Int)]) → (w2.drew.alloc (.cells #[.int .i64 (i : Int)] 3)).grownBy w9 (Value.slice aof fr.length cf).ownBlock → ((Value.slice aof fr.length cf).ownBlock = some g9 ∨ g9 = (w2.drew.alloc (.cells #[.int .i64 (i : Int)] 3)).heap.size) → (w9.heap[g]? = some (.cells #[.int .i64 (n : Int), .slice (some ⟨gg, 0, none⟩) gs.length cg, .slice (some ⟨gl, 0, none⟩) lv.length cl, .slice aof fr.length cf] 163 (0, 0)) ∧ Pm (w9.setCell ⟨g, 3, none⟩ (.slice (some ⟨g9, 0, none⟩) (fr.length + 1) c9)) g n (.slice (some ⟨gg, 0, none⟩) gs.length cg) (.slice (some ⟨gl, 0, none⟩) lv.length cl) (.slice (some ⟨g9, 0, none⟩) (fr.length + 1) c9) gs (fr ++ [i]) (lv.set i (0, 0)) ∧ (∀ k, (Value.slice (some ⟨g9, 0, none⟩) (fr.length + 1) c9).ownBlock = some k → (Value.slice aof fr.length cf).ownBlock = some k ∨ w2.heap.size ≤ k) ∧ Mv w2 (w9.setCell ⟨g, 3, none⟩ (.slice (some ⟨g9, 0, none⟩) (fr.length + 1) c9)) (fun k => k = g ∨ (Value.slice aof fr.length cf).ownBlock = some k))) := fun g9 c9 w9 h1 h2 h3 => HP3.out.grow_free (below_on (below_drew w2) (below_alloc _ _)) h1 h2 h3
    go_upto_region 6 with fail
    go_region_law (refine step_append_lies _ rfl (.tmp 31) (.tmp 34) 45 rfl 0 3 i3 (.int .i64 0) 1 8 Tryz.underlying45 hi3 hx0 hx1 hx2 rfl (by decide) (.slice aof fr.length cf) fr.length (ic fr) (by simp [Act.eval]) HO.out ⟨w2.heap.size, 0, none⟩ 1 1 [.int .i64 (i : Int)] (by simp [Act.eval]) rfl (by intro j u hj; match j, hj with | 0, hj => simp at hj; subst hj; simp [Addr.add]) (by intro u hu; simp at hu; subst hu; rfl) (by omega) (by unfold maxLen; omega) (by omega) (Nat.zero_le _) _ rfl ?_; intro g9 c9 w9 ho9 hg9 ha9 _; obtain ⟨p1, p2, p3, p4⟩ := K9.out g9 c9 w9 ho9 hg9 ha9; have d3 : w9.cell? ⟨g, 3, none⟩ = some (.slice aof fr.length cf) := (cell_of_row w9 g 3 _ 163 (0, 0) p1).trans rfl; have y3 : w9.frozen? ⟨g, 3, none⟩ = false := frozen_of_row w9 g 3 _ 163 p1; have P2 := hide p2; have P3 := hide p3; have P4 := hide p4; clear ho9 hg9 ha9 p1 p2 p3 p4)
    all_goals
      go_wp2_with fail
      go_ret
      refine ⟨rfl, _, P2.out, fun k e => (P3.out k e).imp id (fun h => Nat.le_trans HM3.out.size h), HM3.out.trans P4.out (fun k _ e => ?_)⟩
      rcases e with e | e
      · exact .inl e
      · exact .inr (.inr (.inr e))
theorem lv_give {i : Nat} {gs fr : List Nat} (hi : i < gs.length) :
    (lvOf gs fr).set i (0, 0) = lvOf (if gs.getD i 0 = 1000000 then gs.set i 1000001 else gs) (if gs.getD i 0 = 1000000 then fr else fr ++ [i]) := by
  by_cases hw : gs.getD i 0 = 1000000
  · rw [if_pos hw, if_pos hw]
    apply List.ext_getElem
    · simp [lvOf_len]
    · intro j h1 h2
      have hj : j < gs.length := by simpa [lvOf_len] using h1
      rw [lvOf_at _ _ j (by simpa using hj), List.getElem_set]
      by_cases hij : i = j
      · subst hij
        have e : on (gs.set i 1000001) fr i = false := by simp [on, hi]
        rw [if_pos rfl, e]
        rfl
      · rw [if_neg hij, lvOf_at _ _ j hj]
        have e : (gs.set i 1000001).getD j 0 = gs.getD j 0 := by simp [List.getD_eq_getElem?_getD, hij]
        have e2 : on (gs.set i 1000001) fr j = on gs fr j := by simp only [on, e]
        rw [e2, e]
  · rw [if_neg hw, if_neg hw]
    apply List.ext_getElem
    · simp [lvOf_len]
    · intro j h1 h2
      have hj : j < gs.length := by simpa [lvOf_len] using h1
      rw [lvOf_at _ _ j hj, List.getElem_set]
      by_cases hij : i = j
      · subst hij
        have e : on gs (fr ++ [i]) i = false := by simp [on]
        rw [if_pos rfl, e]
        rfl
      · rw [if_neg hij, lvOf_at _ _ j hj]
        have e : on gs (fr ++ [i]) j = on gs fr j := by simp [on, Ne.symm hij]
        rw [e]
theorem ok_give {n i : Nat} {gs fr : List Nat} (h : Ok n gs fr) (hi : i < gs.length) (hl : gs.getD i 0 ≤ 1000000) (hf : i ∉ fr) :
    Ok n (if gs.getD i 0 = 1000000 then gs.set i 1000001 else gs) (if gs.getD i 0 = 1000000 then fr else fr ++ [i]) := by
  obtain ⟨h1, h2, h3, h4, h5, h6⟩ := h
  by_cases hw : gs.getD i 0 = 1000000
  · rw [if_pos hw, if_pos hw]
    refine ⟨h1, h2, by simpa using h3, fun x hx => ?_, h5, fun j hj => ?_⟩
    · rcases List.mem_or_eq_of_mem_set hx with h | h
      · exact h4 x h
      · omega
    · have := h6 j hj
      have hij : i ≠ j := fun e => hf (e ▸ hj)
      have e : (gs.set i 1000001).getD j 0 = gs.getD j 0 := by simp [List.getD_eq_getElem?_getD, hij]
      rw [List.length_set, e]
      exact this
  · rw [if_neg hw, if_neg hw]
    refine ⟨h1, h2, h3, h4, ?_, fun j hj => ?_⟩
    · rw [List.nodup_append]
      refine ⟨h5, by simp, fun a ha b hb => ?_⟩
      simp at hb
      subst hb
      exact fun e => hf (e ▸ ha)
    · rcases List.mem_append.1 hj with h | h
      · exact h6 j h
      · simp at h
        subst h
        exact ⟨hi, by omega⟩
theorem give_live {w : World} {S : Nat → Prop} {g n i : Nat} {gs fr : List Nat} (h : Pl w S g n gs fr) (hi : i < gs.length) (hl : gs.getD i 0 ≤ 1000000) (hf : i ∉ fr) :
    Calls Tryz.prog 86 #[.pointer (some ⟨g, 0, none⟩), ev (i, gs.getD i 0)] w fun e w' => e = .returned (.int .i64 0) ∧ Pl w' (Nw w S) g n (if gs.getD i 0 = 1000000 then gs.set i 1000001 else gs) (if gs.getD i 0 = 1000000 then fr else fr ++ [i]) ∧ Mv w w' S := by
  have hlv : livesOf gs fr (i : Int) ((gs.getD i 0 : Nat) : Int) = true := by
    simp [livesOf, isOn, on, hi, hf]
    simpa [hi] using hl
  have hL := lives_any (i : Int) ((gs.getD i 0 : Nat) : Int) (h.later (below_alloc w (.cells #[.int .i64 (i : Int), .int .i64 ((gs.getD i 0 : Nat) : Int)] 29)))
  rw [hlv] at hL
  obtain ⟨⟨vg, vl, vf, hp, s0, s1, s2, s3⟩, ho⟩ := h
  have hfl := ho.free_len
  have hlen := ho.2.2.1
  have hn2 := ho.2.1
  refine (give_walk g n i (gs.getD i 0) vg vl vf gs fr _ w hp hi (by rw [lvOf_len]; exact hi) (by omega) hL).mono ?_
  rintro e w' ⟨rfl, vf', q1, q2, q3⟩
  rw [lv_give hi] at q1
  refine ⟨rfl, ⟨⟨vg, vl, vf', q1, .inl s0, s1.mono (fun _ e => .inl e), s2.mono (fun _ e => .inl e), fun k e => ?_⟩, ok_give ho hi hl hf⟩, q3.mono (fun k _ e => ?_)⟩
  · exact (q2 k e).imp (fun h => s3 k h) id
  · rcases e with rfl | e | e | e
    · exact s0
    · exact s1 k e
    · exact s2 k e
    · exact s3 k e
end Go.Proofs.YtafmiolehlagkaaGreat

/-
  World: a world in memory: each block is labelled by whose it is.
-/
namespace Go.Proofs.YtafmiolehlagkaaGreat
open Go.RowKit
set_option maxRecDepth 100000
abbrev Ts := List (Int × Int) × List (List Int)
def TbS (w : World) (S : Nat → Prop) (g : Nat) (s : Ts) (M : Nat) : Prop := ∃ n, n ≤ M ∧ Tb w S g n s.1 s.2
section
variable {w w' : World} {S T : Nat → Prop} {g M M' : Nat} {s : Ts}
theorem TbS.mono (h : TbS w S g s M) (hs : ∀ k, S k → T k) : TbS w T g s M := by
  obtain ⟨n, hn, h⟩ := h
  exact ⟨n, hn, h.mono hs⟩
theorem TbS.frame (h : TbS w S g s M) (hm : Mv w w' T) (hs : ∀ k, S k → ¬ T k) : TbS w' S g s M := by
  obtain ⟨n, hn, h⟩ := h
  exact ⟨n, hn, h.frame hm hs⟩
theorem TbS.up (h : TbS w S g s M) (hM : M ≤ M') : TbS w S g s M' := by
  obtain ⟨n, hn, h⟩ := h
  exact ⟨n, by omega, h⟩
theorem TbS.tight (h : TbS w S g s M) : TbS w (fun k => S k ∧ k < w.heap.size) g s M := by
  obtain ⟨n, hn, h⟩ := h
  exact ⟨n, hn, h.tight⟩
end
theorem Mq.mono {w : World} {gm n n' : Nat} {q : Nat → Option Nat} (h : Mq w gm n q) (hn : n ≤ n') : Mq w gm n' q := by
  obtain ⟨D, h1, h2⟩ := h
  exact ⟨D, h1.mono hn, h2⟩
def Lb (own : Nat → Nat) (w : World) (i : Nat) : Nat → Prop := fun k => k < w.heap.size ∧ own k = i
/-- What is new since w gets the label L. -/
def rel (own : Nat → Nat) (w : World) (L : Nat) : Nat → Nat := fun k => if k < w.heap.size then own k else L
theorem rel_old {own : Nat → Nat} {w : World} {L k : Nat} (h : k < w.heap.size) : rel own w L k = own k := if_pos h
theorem rel_new {own : Nat → Nat} {w : World} {L k : Nat} (h : w.heap.size ≤ k) : rel own w L k = L := if_neg (by omega)
theorem Lb.rel {own : Nat → Nat} {w w' : World} {L i k : Nat} (h : Lb own w i k) (hs : w.heap.size ≤ w'.heap.size) : Lb (rel own w L) w' i k := ⟨by have := h.1; omega, (rel_old h.1).trans h.2⟩
/-- Kinds, in blocks that nobody writes. -/
def Kf (w : World) (S : Nat → Prop) (v : Value) (ks : List Kind) : Prop := ∀ w', (∀ k, S k → w'.heap[k]? = w.heap[k]?) → Kr w' v ks
theorem Kf.kr {w : World} {S : Nat → Prop} {v : Value} {ks : List Kind} (h : Kf w S v ks) : Kr w v ks := h w (fun _ _ => rfl)
theorem Kf.next {w w' : World} {S S' : Nat → Prop} {v : Value} {ks : List Kind} (h : Kf w S v ks) (h1 : ∀ k, S k → w'.heap[k]? = w.heap[k]?) (h2 : ∀ k, S k → S' k) : Kf w' S' v ks := fun w2 hw => h w2 (fun k hk => (hw k (h2 k hk)).trans (h1 k hk))
/-- A world but for what is labelled L: 1 its block, 2 its kinds, 3 its pool, 4 the map of sets, 5 the map of tables, 10 + s the table of the set s. -/
def Wx (L : Nat) (w : World) (own : Nat → Nat) (gw : Nat) (vk : Value) (gp gm gt M : Nat) (ks : List Kind) (gs fr : List Nat) (f : Int × Int → Option Nat) (q : Nat → Option Nat) (T : Nat → Ts) : Prop :=
  (own gw = 1 ∧ own gm = 4 ∧ own gt = 5) ∧ (gm < w.heap.size ∧ gt < w.heap.size) ∧ Wc w gw vk gp gm gt ∧ Kf w (Lb own w 2) vk ks ∧ (L ≠ 3 → Pl w (Lb own w 3) gp 200 gs fr) ∧ (L ≠ 4 → Mp w gm M f) ∧ (L ≠ 5 → Mq w gt M q) ∧
  ∀ s g, q s = some g → L ≠ 10 + s → TbS w (Lb own w (10 + s)) g (T s) M
section
variable {L : Nat} {w w' : World} {own : Nat → Nat} {gw gp gm gt M M' : Nat} {vk : Value} {ks : List Kind} {gs fr gs' fr' : List Nat} {f f' : Int × Int → Option Nat} {q q' : Nat → Option Nat} {T T' : Nat → Ts}
theorem Wx.up (h : Wx L w own gw vk gp gm gt M ks gs fr f q T) (hM : M ≤ M') : Wx L w own gw vk gp gm gt M' ks gs fr f q T := by
  obtain ⟨h1, hlt, h2, h3, h4, h5, h6, h7⟩ := h
  exact ⟨h1, hlt, h2, h3, h4, fun e => (h5 e).mono hM, fun e => (h6 e).mono hM, fun s g hg e => (h7 s g hg e).up hM⟩
/-- Where only what is labelled L, or nobody's, is written, the rest stays. -/
theorem Wx.frame {S : Nat → Prop} (h : Wx 0 w own gw vk gp gm gt M ks gs fr f q T) (hL : L = 0 ∨ 3 ≤ L) (hm : Mv w w' S) (hS : ∀ k, k < w.heap.size → S k → own k = L ∨ own k = 0) : Wx L w' (rel own w L) gw vk gp gm gt M ks gs fr f q T := by
  obtain ⟨⟨a1, a2, a3⟩, ⟨b1, b2⟩, h2, h3, h4, h5, h6, h7⟩ := h
  have hsz := hm.size
  have hw : gw < w.heap.size := lt_of_block h2
  refine ⟨⟨(rel_old hw).trans a1, (rel_old b1).trans a2, (rel_old b2).trans a3⟩, ⟨by omega, by omega⟩, hm.at h2 (fun e => by have := hS gw hw e; omega), h3.next (fun k hk => hm.2.2.2.2 k hk.1 (fun e => by have := hS k hk.1 e; have := hk.2; omega)) (fun k hk => hk.rel hsz), fun e => ?_, fun e => ?_, fun e => ?_, fun s g hg e => ?_⟩
  · exact ((h4 (by omega)).frame hm (fun k hk e' => by have := hS k hk.1 e'; have := hk.2; omega)).mono (fun k hk => hk.rel hsz)
  · exact (h5 (by omega)).same (hm.2.2.2.2 gm b1 (fun e' => by have := hS gm b1 e'; omega))
  · exact (h6 (by omega)).same (hm.2.2.2.2 gt b2 (fun e' => by have := hS gt b2 e'; omega))
  · exact ((h7 s g hg (by omega)).frame hm (fun k hk e' => by have := hS k hk.1 e'; have := hk.2; omega)).mono (fun k hk => hk.rel hsz)
theorem Wx.later (h : Wx 0 w own gw vk gp gm gt M ks gs fr f q T) (hb : Below w.heap.size w w') : Wx 0 w' (rel own w 0) gw vk gp gm gt M ks gs fr f q T := h.frame (.inl rfl) (Mv.of_below hb (fun _ => False)) (fun _ _ e => e.elim)
/-- The blocks of L and what is new. -/
theorem Lb.of_new {k : Nat} (h : Nw w (Lb own w L) k) (hk : k < w'.heap.size) : Lb (Go.Proofs.YtafmiolehlagkaaGreat.rel own w L) w' L k := by
  rcases h with h | h
  · exact ⟨hk, (rel_old h.1).trans h.2⟩
  · exact ⟨hk, rel_new h⟩
/-- A table turns. -/
theorem Wx.table {s g : Nat} {t : Ts} (h : Wx 0 w own gw vk gp gm gt M ks gs fr f q T) (hm : Mv w w' (Lb own w (10 + s))) (hg : q s = some g) (ht : TbS w' (Nw w (Lb own w (10 + s))) g t M') (hM : M ≤ M') : Wx 0 w' (rel own w (10 + s)) gw vk gp gm gt M' ks gs fr f q (fun x => if x = s then t else T x) := by
  have k := (h.frame (.inr (by omega)) hm (fun k _ e => .inl e.2)).up hM
  obtain ⟨h1, hlt, h2, h3, h4, h5, h6, h7⟩ := k
  refine ⟨h1, hlt, h2, h3, fun _ => h4 (by omega), fun _ => h5 (by omega), fun _ => h6 (by omega), fun x g' hx _ => ?_⟩
  by_cases e : x = s
  · subst e
    rw [hg] at hx
    obtain rfl := Option.some.inj hx
    simp only [if_true]
    exact ht.tight.mono (fun k hk => Lb.of_new hk.1 hk.2)
  · simp only [if_neg e]
    exact h7 x g' hx (by omega)
/-- The pool turns. -/
theorem Wx.pool (h : Wx 0 w own gw vk gp gm gt M ks gs fr f q T) (hm : Mv w w' (Lb own w 3)) (ht : Pl w' (Lb (rel own w 3) w' 3) gp 200 gs' fr') : Wx 0 w' (rel own w 3) gw vk gp gm gt M ks gs' fr' f q T := by
  have k := h.frame (L := 3) (.inr (by omega)) hm (fun k _ e => .inl e.2)
  obtain ⟨h1, hlt, h2, h3, h4, h5, h6, h7⟩ := k
  exact ⟨h1, hlt, h2, h3, fun _ => ht, fun _ => h5 (by omega), fun _ => h6 (by omega), fun x g' hx _ => h7 x g' hx (by omega)⟩
theorem mv_turned {g : Nat} (h : w.mapTurned w' g) : Mv w w' (fun k => k = g) := by
  exact (Mv.refl w (fun k => k = g)).grown h.grown (fun k _ e => (Option.some.inj e).symm)
/-- The map of sets turns. -/
theorem Wx.sets (h : Wx 0 w own gw vk gp gm gt M ks gs fr f q T) (hm : w.mapTurned w' gm) (hf : Mp w' gm M' f') (hM : M ≤ M') : Wx 0 w' (rel own w 4) gw vk gp gm gt M' ks gs fr f' q T := by
  have k := (h.frame (L := 4) (.inr (by omega)) (mv_turned hm) (fun k _ e => .inl (by rw [e]; exact h.1.2.1))).up hM
  obtain ⟨h1, hlt, h2, h3, h4, h5, h6, h7⟩ := k
  exact ⟨h1, hlt, h2, h3, fun _ => h4 (by omega), fun _ => hf, fun _ => h6 (by omega), fun x g' hx _ => h7 x g' hx (by omega)⟩
/-- The map of tables turns: nothing comes to it. -/
theorem Wx.less (h : Wx 0 w own gw vk gp gm gt M ks gs fr f q T) (hm : w.mapTurned w' gt) (hf : Mq w' gt M' q') (hM : M ≤ M') (hq : ∀ s g, q' s = some g → q s = some g) : Wx 0 w' (rel own w 5) gw vk gp gm gt M' ks gs fr f q' T := by
  have k := (h.frame (L := 5) (.inr (by omega)) (mv_turned hm) (fun k _ e => .inl (by rw [e]; exact h.1.2.2))).up hM
  obtain ⟨h1, hlt, h2, h3, h4, h5, h6, h7⟩ := k
  exact ⟨h1, hlt, h2, h3, fun _ => h4 (by omega), fun _ => h5 (by omega), fun _ => hf, fun x g' hx _ => h7 x g' (hq x g' hx) (by omega)⟩
/-- A table comes to it, whose blocks are new since w0. -/
theorem Wx.more {w0 : World} {s g : Nat} {t : Ts} (h : Wx 0 w0 own gw vk gp gm gt M ks gs fr f q T) (hb : Below w0.heap.size w0 w) (ht : TbS w (fun k => w0.heap.size ≤ k) g t M') (hM : M ≤ M') (hs : q s = none) (hm : w.mapTurned w' gt) (hf : Mq w' gt M' (fun x => if x = s then some g else q x)) :
    Wx 0 w' (rel (rel own w0 (10 + s)) w 5) gw vk gp gm gt M' ks gs fr f (fun x => if x = s then some g else q x) (fun x => if x = s then t else T x) := by
  have k0 := h.frame (L := 10 + s) (.inr (by omega)) (Mv.of_below hb (fun _ => False)) (fun _ _ e => e.elim)
  have k : Wx 0 w (rel own w0 (10 + s)) gw vk gp gm gt M ks gs fr f q T := by
    obtain ⟨h1, hlt, h2, h3, h4, h5, h6, h7⟩ := k0
    refine ⟨h1, hlt, h2, h3, fun _ => h4 (by omega), fun _ => h5 (by omega), fun _ => h6 (by omega), fun x g' hx _ => h7 x g' hx (fun e => ?_)⟩
    obtain rfl : s = x := by omega
    rw [hs] at hx
    cases hx
  have k2 := (k.frame (L := 5) (.inr (by omega)) (mv_turned hm) (fun k' _ e => .inl (by rw [e]; exact k.1.2.2))).up hM
  obtain ⟨h1, hlt, h2, h3, h4, h5, h6, h7⟩ := k2
  refine ⟨h1, hlt, h2, h3, fun _ => h4 (by omega), fun _ => h5 (by omega), fun _ => hf, fun x g' hx _ => ?_⟩
  by_cases e : x = s
  · subst e
    simp only [if_true, Option.some.injEq] at hx ⊢
    subst hx
    have hgt : gt < w0.heap.size := h.2.1.2
    refine ((ht.tight.frame (mv_turned hm) (fun k' hk e' => ?_))).mono (fun k' hk => ⟨Nat.lt_of_lt_of_le hk.2 (mv_turned hm).size, ?_⟩)
    · have := hk.1
      subst e'
      omega
    · rw [rel_old hk.2, rel_new hk.1]
  · simp only [if_neg e] at hx ⊢
    exact h7 x g' hx (by omega)
end
end Go.Proofs.YtafmiolehlagkaaGreat

/-
  World: an entity's row is taken away.
-/
namespace Go.Proofs.YtafmiolehlagkaaGreat
open Go.RowKit
set_option maxRecDepth 100000
theorem World.ownsMap.look_one {P : Program} {H : Type} {R : Value → Option (DataW H × List MemPlace)} {k : TypeId} {b n : Nat} {D : DataW H} {w : World} {t e : TypeId} (h : w.ownsMap P k R b n D) (K : Maps.Keyed P k) (ht : P.underlying t = some (.map k e)) {z : Value} (hz : (zeroValue e).run P w = .ok z w) {zd : DataW H} {zp : List MemPlace} (hzd : R z = some (zd, zp))
    {key : Value} {kl : Lit} (hkey : keyOf P k key = some kl) : ∃ v ps, (Instr.lookup t (.map (some b)) key false).run P w = .ok v w ∧ R v = some (D.atKey kl zd, ps) := by
  obtain ⟨es, clock, hb, F, _, rfl⟩ := h
  rcases Maps.fit_look false K ht hz hb F hkey with ⟨hrun, _, hat⟩ | ⟨e0, y, _, _, hrun, hRv, hat, _⟩
  · exact ⟨z, zp, hrun, by rw [hat zd]; exact hzd⟩
  · exact ⟨e0.val, y.2, hrun, by rw [hat zd]; exact hRv⟩
theorem Mp.look1 {w : World} {gm n s : Nat} {f : Int × Int → Option Nat} (h : Mp w gm n f) (a b : Int) (he : InB (a, b)) (hf : f (a, b) = some s) : (Instr.lookup 106 (.map (some gm)) (.agg #[.int .i64 a, .int .i64 b]) false).run Tryz.prog w = .ok (.int .i64 (s : Int)) w := by
  obtain ⟨D, h1, h2⟩ := h
  obtain ⟨kl, hkl⟩ := key_of (a, b) he
  obtain ⟨v, ps, hr, hv⟩ := World.ownsMap.look_one h1 keyed32 Tryz.underlying106 (zero3 w) (plainElem_int Tryz.underlying3 (by decide)) hkl
  obtain ⟨c, rfl, hc, hwc⟩ := plainElem_int_inv Tryz.underlying3 hv
  obtain ⟨h3, h4⟩ := h2 (a, b) he kl hkl
  have := congrArg Prod.fst hc
  rw [h4 s hf] at this
  rw [show c = (s : Int) by simpa using this.symm] at hr
  exact hr
theorem Mq.look1 {w : World} {gm n s g : Nat} {q : Nat → Option Nat} (h : Mq w gm n q) (hs : s < 9007199254740992) (hq : q s = some g) : (Instr.lookup 107 (.map (some gm)) (.int .i64 (s : Int)) false).run Tryz.prog w = .ok (.pointer (some ⟨g, 0, none⟩)) w := by
  obtain ⟨D, h1, h2, -⟩ := h
  obtain ⟨v, ps, hr, hv⟩ := World.ownsMap.look_one h1 keyed3 Tryz.underlying107 (zero133 w) (zd := .nil) (zp := []) rfl (key3 s hs)
  obtain ⟨h3, h4⟩ := h2 s hs
  rw [h4 g hq] at hv
  rw [ptrElem_inv hv] at hr
  exact hr
section
variable {w w' : World} {own : Nat → Nat} {gw gp gm gt M M' : Nat} {vk : Value} {ks : List Kind} {gs fr gs' fr' : List Nat} {f f' : Int × Int → Option Nat} {q q' : Nat → Option Nat} {T T' : Nat → Ts}
/-- What nobody of the world's owns is as it was, and whose each block is. -/
def Wk (own own' : Nat → Nat) (w w' : World) : Prop := (∀ k, k < w.heap.size → own' k = own k) ∧ Mv w w' (fun k => own k ≠ 0)
theorem Wk.refl (own : Nat → Nat) (w : World) : Wk own own w w := ⟨fun _ _ => rfl, Mv.refl _ _⟩
theorem Wk.trans {o1 o2 o3 : Nat → Nat} {w1 w2 w3 : World} (h : Wk o1 o2 w1 w2) (k : Wk o2 o3 w2 w3) : Wk o1 o3 w1 w3 := ⟨fun j hj => (k.1 j (Nat.lt_of_lt_of_le hj h.2.size)).trans (h.1 j hj), h.2.trans k.2 (fun j hj e => by rw [← h.1 j hj]; exact e)⟩
theorem Wk.of {L : Nat} {S : Nat → Prop} (hm : Mv w w' S) (hS : ∀ k, k < w.heap.size → S k → own k ≠ 0) : Wk own (rel own w L) w w' := ⟨fun _ hk => rel_old hk, hm.mono hS⟩
theorem Wk.later {L : Nat} (hb : Below w.heap.size w w') : Wk own (rel own w L) w w' := Wk.of (Mv.of_below hb (fun _ => False)) (fun _ _ e => e.elim)
theorem Wx.cells {L : Nat} (h : Wx L w own gw vk gp gm gt M ks gs fr f q T) : w.cell? ⟨gw, 0, none⟩ = some vk ∧ w.cell? ⟨gw, 1, none⟩ = some (.pointer (some ⟨gp, 0, none⟩)) ∧ w.cell? ⟨gw, 2, none⟩ = some (.map (some gm)) ∧ w.cell? ⟨gw, 3, none⟩ = some (.map (some gt)) := h.2.2.1.cell
theorem Wx.mp (h : Wx 0 w own gw vk gp gm gt M ks gs fr f q T) : Mp w gm M f := h.2.2.2.2.2.1 (by omega)
theorem Wx.mq (h : Wx 0 w own gw vk gp gm gt M ks gs fr f q T) : Mq w gt M q := h.2.2.2.2.2.2.1 (by omega)
theorem Wx.pl (h : Wx 0 w own gw vk gp gm gt M ks gs fr f q T) : Pl w (Lb own w 3) gp 200 gs fr := h.2.2.2.2.1 (by omega)
theorem Wx.tb {s g : Nat} (h : Wx 0 w own gw vk gp gm gt M ks gs fr f q T) (hq : q s = some g) : TbS w (Lb own w (10 + s)) g (T s) M := h.2.2.2.2.2.2.2 s g hq (by omega)
def lessQ (q : Nat → Option Nat) (T : Nat → Ts) (s : Nat) : Nat → Option Nat := if (T s).1.length = 1 then fun x => if x = s then none else q x else q
def lessT (T : Nat → Ts) (s i : Nat) : Nat → Ts := fun x => if x = s then (rem (T s).1 i, remCols (T s).2 i) else T x
theorem lessT_len (T : Nat → Ts) (s i : Nat) : (lessT T s i s).1.length = (T s).1.length - 1 := by simp [lessT, rem_len]
theorem kx_cells {W : World} {kx : Nat} {a b : Int} (h : w.heap[kx]? = some (.cells #[.int .i64 a, .int .i64 b] 29 (0, 0))) (hb : Below w.heap.size w W) : W.cell? ⟨kx, 0, none⟩ = some (.int .i64 a) ∧ W.cell? ⟨kx, 1, none⟩ = some (.int .i64 b) := by
  have hx := (hb.block kx (lt_of_block h)).trans h
  exact ⟨by rw [cell_of_row W kx _ _ 29 (0, 0) hx]; rfl, by rw [cell_of_row W kx _ _ 29 (0, 0) hx]; rfl⟩
set_option maxHeartbeats 4000000 in
theorem drop_any (h : Wx 0 w own gw vk gp gm gt M ks gs fr f q T) (a b : Int) (hb : InB (a, b)) (s g i : Nat) (hf : f (a, b) = some s) (hq : q s = some g) (hs : s < 8192) (hi : i < (T s).1.length) (hx : (T s).1[i] = (a, b)) (hM : M ≤ 900000) :
    Calls Tryz.prog 80 #[.pointer (some ⟨gw, 0, none⟩), .agg #[.int .i64 a, .int .i64 b]] w fun e w' => e = .returned (.tuple #[]) ∧ ∃ own', Wx 0 w' own' gw vk gp gm gt (M + 1) ks gs fr (fun x => if x = (a, b) then none else f x) (lessQ q T s) (lessT T s i) ∧ Wk own own' w w' := by
  have H := hide h
  have HQ := hide hq
  have HF := hide hf
  have HB := hide hb
  have HX : Hid (∃ hi : i < (T s).1.length, (T s).1[i] = (a, b)) := ⟨hi, hx⟩
  clear h hq hf hb hi hx
  go_enter Tryz.func80, Tryz.ntmps80
  go_upto_region 1 with fail
  obtain ⟨w1, hw1⟩ : ∃ X, X = w.alloc (.cells #[.int .i64 a, .int .i64 b] 29) := ⟨_, rfl⟩
  have B1 : Below w.heap.size w w1 := hw1 ▸ below_alloc w _
  have hx1 : w1.heap[w.heap.size]? = some (.cells #[.int .i64 a, .int .i64 b] 29 (0, 0)) := hw1 ▸ heap_alloc_new w _
  rw [← hw1]
  obtain ⟨kx, hkx⟩ : ∃ k, k = w.heap.size := ⟨_, rfl⟩
  rw [← hkx] at hx1 ⊢
  have HX1 : Hid (w1.heap[kx]? = some (.cells #[.int .i64 a, .int .i64 b] 29 (0, 0)) ∧ rel own w 0 kx = 0) := ⟨hx1, by rw [hkx]; exact rel_new (Nat.le_refl _)⟩
  have p0 : w1.cell? ⟨kx, 0, none⟩ = some (.int .i64 a) := by rw [cell_of_row w1 kx _ _ 29 (0, 0) hx1]; rfl
  have p1 : w1.cell? ⟨kx, 1, none⟩ = some (.int .i64 b) := by rw [cell_of_row w1 kx _ _ 29 (0, 0) hx1]; rfl
  have H1 := hide (H.out.later B1)
  have K1 : Hid (Wk own (rel own w 0) w w1) := Wk.later B1
  obtain ⟨c0, c1, c2, c3⟩ := H1.out.cells
  have hlk := (H1.out.later (below_drew w1)).mp.look1 a b HB.out HF.out
  have hlq := (H1.out.later (below_drew w1)).mq.look1 (by omega) HQ.out
  clear hx1 hw1 hkx B1
  refine wp_region_noPanic ?_
  refine wp_region_late (J := fun i => i != 99) (S := fun W => W.cell? ⟨gw, 2, none⟩ = some (.map (some gm)) ∧ W.cell? ⟨kx, 0, none⟩ = some (.int .i64 a) ∧ W.cell? ⟨kx, 1, none⟩ = some (.int .i64 b)) (by kernel_rfl) ⟨c2, p0, p1⟩ (fun hHeld => ?_)
  refine' wpAnyJ_takeW (i := 0) (oi := { dst := some 6, op := Op.move (Operand.tmp 0), type := 37, pos := "world.go:231", after := #[], guard := none }) (v := _) rfl (by kernel_rfl) (by kernel_rfl) (by kernel_rfl) (fun _ _ _ h => h) (Or.inl ⟨by rfl, ?hyA1⟩) ?reA1
  case hyA1 => (intro W hSw; (try dsimp only at hSw); go_simp; try with_reducible rfl)
  try simp only [Act.put, List.setIfInBounds_toArray, List.set_cons_zero, List.set_cons_succ]
  refine' wpAnyJ_takeW (i := 1) (oi := { dst := some 7, op := Op.nilCheck (Operand.tmp 6), type := 0, pos := "world.go:231", after := #[{ on := 0, ground := Ground.data }], guard := none }) (v := _) rfl (by kernel_rfl) (by kernel_rfl) (by kernel_rfl) (fun _ _ _ h => h) (Or.inl ⟨by rfl, ?hyA2⟩) ?reA2
  case hyA2 => (intro W hSw; (try dsimp only at hSw); go_simp; try with_reducible rfl)
  try simp only [Act.put, List.setIfInBounds_toArray, List.set_cons_zero, List.set_cons_succ]
  refine' wpAnyJ_takeW (i := 2) (oi := { dst := some 8, op := Op.fieldAddr 109 (Operand.tmp 7) 2, type := 0, pos := "world.go:231", after := #[{ on := 1, ground := Ground.data }], guard := none }) (v := _) rfl (by kernel_rfl) (by kernel_rfl) (by kernel_rfl) (fun _ _ _ h => h) (Or.inl ⟨by rfl, ?hyA3⟩) ?reA3
  case hyA3 => (intro W hSw; (try dsimp only at hSw); go_simp; try with_reducible rfl)
  try simp only [Act.put, List.setIfInBounds_toArray, List.set_cons_zero, List.set_cons_succ]
  refine' wpAnyJ_take (i := 3) (oi := { dst := some 9, op := Op.load 106 (Operand.tmp 8), type := 106, pos := "world.go:231", after := #[{ on := 2, ground := Ground.data }], guard := none }) (v := _) rfl (by kernel_rfl) (by kernel_rfl) (by kernel_rfl) (by kernel_rfl) (fun _ _ _ h => h) (Or.inl ⟨by rfl, ?hyA4⟩) (by assumption) ?reA4
  case hyA4 => (intro W hSw; (try dsimp only at hSw); go_simp; try with_reducible rfl)
  try simp only [Act.put, List.setIfInBounds_toArray, List.set_cons_zero, List.set_cons_succ]
  refine' wpAnyJ_take (i := 4) (oi := { dst := some 10, op := Op.load 29 (Operand.tmp 3), type := 29, pos := "world.go:231", after := #[], guard := none }) (v := _) rfl (by kernel_rfl) (by kernel_rfl) (by kernel_rfl) (by kernel_rfl) (fun _ _ _ h => h) (Or.inl ⟨by rfl, ?hyA5⟩) (by assumption) ?reA5
  case hyA5 => (intro W hSw; (try dsimp only at hSw); go_simp; try with_reducible rfl)
  try simp only [Act.put, List.setIfInBounds_toArray, List.set_cons_zero, List.set_cons_succ]
  refine wpAnyJ_ready (rs := [5]) (by kernel_rfl) (by simp) ?_
  refine AllReadyJ.cons (o := { dst := some 11, op := Op.lookup 106 (Operand.tmp 9) (Operand.tmp 10) false, type := 3, pos := "world.go:231", after := #[{ on := 3, ground := Ground.data }, { on := 4, ground := Ground.data }], guard := none }) rfl (fun K hK => ?_) AllReadyJ.nil
  go_simp
  refine hK.out _ _ (fun _ _ => ⟨c2, p0, p1⟩) ?_
  clear hK K
  try simp only [Act.put, List.setIfInBounds_toArray, List.set_cons_zero, List.set_cons_succ]
  refine' wpAnyJ_takeW (i := 6) (oi := { dst := some 4, op := Op.assign (Operand.tmp 11), type := 3, pos := "world.go:231", after := #[{ on := 5, ground := Ground.data }, { on := 0, ground := Ground.phase }, { on := 1, ground := Ground.phase }, { on := 2, ground := Ground.phase }, { on := 3, ground := Ground.phase }, { on := 4, ground := Ground.phase }, { on := 5, ground := Ground.phase }], guard := none }) (v := _) rfl (by kernel_rfl) (by kernel_rfl) (by kernel_rfl) (fun _ _ _ h => h) (Or.inl ⟨by rfl, ?hyA6⟩) ?reA6
  case hyA6 => (intro W hSw; (try dsimp only at hSw); go_simp; try with_reducible rfl)
  try simp only [Act.put, List.setIfInBounds_toArray, List.set_cons_zero, List.set_cons_succ]
  refine wpAnyJ_done (by kernel_rfl) ?_ _
  refine NoPanic.normal ?_
  obtain ⟨w2, hw2⟩ : ∃ X, X = w1.drew := ⟨_, rfl⟩
  rw [← hw2]
  have H2 : Hid (Wx 0 w2 (rel (rel own w 0) w1 0) gw vk gp gm gt M ks gs fr f q T) := hw2 ▸ H1.out.later (below_drew w1)
  have K2 : Hid (Wk own (rel (rel own w 0) w1 0) w w2) := hw2 ▸ K1.out.trans (Wk.later (below_drew w1))
  have X2 : Hid (w2.heap[kx]? = some (.cells #[.int .i64 a, .int .i64 b] 29 (0, 0)) ∧ rel (rel own w 0) w1 0 kx = 0) := ⟨hw2 ▸ HX1.out.1, (rel_old (lt_of_block HX1.out.1)).trans HX1.out.2⟩
  obtain ⟨o2, ho2⟩ : ∃ X, X = rel (rel own w 0) w1 0 := ⟨_, rfl⟩
  rw [← ho2] at H2 K2 X2
  clear hlk hlq p0 p1 c0 c1 c2 c3 H1 K1 HX1 ho2 hw2
  obtain ⟨-, -, c2, c3⟩ := H2.out.cells
  have hlq := H2.out.mq.look1 (by omega) HQ.out
  obtain ⟨hi, hx⟩ := HX.out
  have JF : Hid (Calls Tryz.prog 150 #[.pointer (some ⟨g, 0, none⟩), .agg #[.int .i64 a, .int .i64 b]] w2 fun e w' => e = .returned (.int .i64 (i : Int)) ∧ Hid (Below w2.heap.size w2 w') ∧ w'.cell? ⟨kx, 0, none⟩ = some (.int .i64 a) ∧ w'.cell? ⟨kx, 1, none⟩ = some (.int .i64 b)) := by
    obtain ⟨n, hn, ht⟩ := H2.out.tb HQ.out
    refine (find_any ht a b HB.out).mono ?_
    rintro e w' ⟨r, rfl, hr, hb2⟩
    have hr2 : r = (i : Int) := by
      rcases hr with ⟨-, hr⟩ | ⟨j, hj, rfl, hr⟩
      · exact absurd (hx ▸ List.getElem_mem hi) hr
      · obtain ⟨lab, vr, gm', vc, cs, f', hm, hix, -⟩ := ht
        rw [hix.inj hj hi (hr.trans hx.symm)]
    exact ⟨ret_int hr2, hb2, kx_cells X2.out.1 hb2⟩
  have JR : Hid (∀ W, Hid (Below w2.heap.size w2 W) → Calls Tryz.prog 151 #[.pointer (some ⟨g, 0, none⟩), .int .i64 (i : Int)] W fun e w' => ∃ x y, e = .returned (.tuple #[x, y, .int .i64 0]) ∧ (∃ o3, Hid (Wx 0 w' o3 gw vk gp gm gt (M + 1) ks gs fr f q (lessT T s i) ∧ Wk own o3 w w' ∧ w'.heap[kx]? = some (.cells #[.int .i64 a, .int .i64 b] 29 (0, 0)) ∧ o3 kx = 0)) ∧ w'.cell? ⟨kx, 0, none⟩ = some (.int .i64 a) ∧ w'.cell? ⟨kx, 1, none⟩ = some (.int .i64 b)) := fun W hW => by
    obtain ⟨n, hn, ht⟩ := H2.out.tb HQ.out
    refine (remove_any (ht.later hW.out) i hi (by omega)).mono ?_
    rintro e w' ⟨rfl, h1, h2⟩
    have hmv : Mv w2 w' (Lb o2 w2 (10 + s)) := (Mv.of_below hW.out _).trans h2 (fun k _ e => e)
    have hkn : ¬ Lb o2 w2 (10 + s) kx := fun e => by have := e.2; rw [X2.out.2] at this; omega
    have hkx := hmv.at X2.out.1 hkn
    have hwx := H2.out.table hmv HQ.out (t := (rem (T s).1 i, remCols (T s).2 i)) (M' := M + 1) ⟨n + 1, by omega, h1.mono (fun k e => .inl e)⟩ (by omega)
    refine ⟨_, _, rfl, ⟨_, hwx, K2.out.trans (Wk.of hmv (fun k _ e => by have := e.2; omega)), hkx, (rel_old (lt_of_block X2.out.1)).trans X2.out.2⟩, ?_⟩
    exact kx_cells hkx (Below.refl _ _)
  obtain ⟨p0, p1⟩ := kx_cells X2.out.1 (Below.refl _ w2)
  have HI : Hid (i < (T s).1.length) := hi
  clear hi hx
  go_wp2_with fail
  refine JF.out.mono ?_
  rintro e w2' ⟨rfl, HW2, ZZ0, ZZ1⟩
  go_wp2_with fail
  refine (JR.out _ HW2).mono ?_
  rintro e w3 ⟨x3, y3, rfl, ⟨o3, H3⟩, z0, z1⟩
  clear JF JR p0 p1 ZZ0 ZZ1 HW2 H2 K2 X2 c2 c3 hlq
  have JL : Hid (Calls Tryz.prog 85 #[.pointer (some ⟨g, 0, none⟩)] w3 fun e w' => e = .returned (.int .i64 (((T s).1.length - 1 : Nat) : Int)) ∧ w' = w3) := by
    obtain ⟨n, hn, ht⟩ := H3.out.1.tb HQ.out
    rw [← lessT_len T s i]
    exact len_any ht
  by_cases hm : (T s).1.length = 1
  · rw [hm] at JL
    have EQ : Hid (lessQ q T s = fun x => if x = s then none else q x) := by unfold lessQ Hid; rw [if_pos hm]
    obtain ⟨-, -, c2, c3⟩ := H3.out.1.cells
    obtain ⟨w4, hst, hmq4, htn4⟩ := H3.out.1.mq.drop s (by omega) 0
    have H4 : Hid (Wx 0 w4 (rel o3 w3 5) gw vk gp gm gt (M + 1) ks gs fr f (lessQ q T s) (lessT T s i) ∧ Wk own (rel o3 w3 5) w w4 ∧ w4.heap[kx]? = some (.cells #[.int .i64 a, .int .i64 b] 29 (0, 0)) ∧ rel o3 w3 5 kx = 0) := by
      obtain ⟨k1, k2, k3, k4⟩ := H3.out
      have hne : ¬ kx = gt := fun e => by have := k1.1.2.2; rw [← e, k4] at this; omega
      refine ⟨?_, k2.trans (Wk.of (mv_turned htn4) (fun k _ e => by rw [e, k1.1.2.2]; decide)), (mv_turned htn4).at k3 hne, (rel_old (lt_of_block k3)).trans k4⟩
      rw [EQ.out]
      exact k1.less htn4 hmq4 (Nat.le_refl _) (fun x g' hx => by
        by_cases e : x = s
        · rw [if_pos e] at hx; cases hx
        · rw [if_neg e] at hx; exact hx)
    clear hmq4 htn4 hm EQ
    go_wp2_with fail
    refine JL.out.mono ?_
    rintro e w3' ⟨rfl, rfl⟩
    clear JL
    clear z0 z1
    obtain ⟨-, -, c2, c3⟩ := H4.out.1.cells
    obtain ⟨z0, z1⟩ := kx_cells H4.out.2.2.1 (below_drew w4)
    have B5 := below_drew w4
    have H5 := H4.out.1.later B5
    obtain ⟨w6, hst, hmp6, htn6⟩ := H5.mp.drop (a, b) HB.out 0
    have HE : Hid (∃ own', Wx 0 w6 own' gw vk gp gm gt (M + 1) ks gs fr (fun x => if x = (a, b) then none else f x) (lessQ q T s) (lessT T s i) ∧ Wk own own' w w6) :=
      ⟨_, H5.sets htn6 hmp6 (Nat.le_refl _), (H4.out.2.1.trans (Wk.later B5)).trans (Wk.of (mv_turned htn6) (fun k _ e => by rw [e, H5.1.2.1]; decide))⟩
    have hne : ¬ kx = gm := fun e => by have := H4.out.1.1.2.1; rw [← e, H4.out.2.2.2] at this; omega
    obtain ⟨y0, y1⟩ := kx_cells ((mv_turned htn6).at (w := w4.drew) H4.out.2.2.1 hne) (Below.refl _ w6)
    have hnw : ¬ gw = gm := fun e => by have h1 := H4.out.1.1.1; have h2 := H4.out.1.1.2.1; rw [← e, h1] at h2; omega
    have y2 : w6.cell? ⟨gw, 2, none⟩ = some (.map (some gm)) := (mv_turned htn6).cell (w := w4.drew) c2 hnw
    dsimp only at hst
    clear H5 hmp6 htn6 hne hnw B5
    go_upto_region 6 with fail
    refine wp_region_noPanic ?_
    refine wp_region_late (J := fun i => i != 99) (S := fun W => W.cell? ⟨gw, 2, none⟩ = some (.map (some gm)) ∧ W.cell? ⟨kx, 0, none⟩ = some (.int .i64 a) ∧ W.cell? ⟨kx, 1, none⟩ = some (.int .i64 b)) (by kernel_rfl) ⟨c2, z0, z1⟩ (fun hHeld => ?_)
    refine' wpAnyJ_takeW (i := 0) (oi := { dst := some 31, op := Op.move (Operand.tmp 0), type := 37, pos := "world.go:237", after := #[], guard := none }) (v := _) rfl (by kernel_rfl) (by kernel_rfl) (by kernel_rfl) (fun _ _ _ h => h) (Or.inl ⟨by rfl, ?hyC1⟩) ?reC1
    case hyC1 => (intro W hSw; (try dsimp only at hSw); go_simp; try with_reducible rfl)
    try simp only [Act.put, List.setIfInBounds_toArray, List.set_cons_zero, List.set_cons_succ]
    refine' wpAnyJ_takeW (i := 1) (oi := { dst := some 32, op := Op.nilCheck (Operand.tmp 31), type := 0, pos := "world.go:237", after := #[{ on := 0, ground := Ground.data }], guard := none }) (v := _) rfl (by kernel_rfl) (by kernel_rfl) (by kernel_rfl) (fun _ _ _ h => h) (Or.inl ⟨by rfl, ?hyC2⟩) ?reC2
    case hyC2 => (intro W hSw; (try dsimp only at hSw); go_simp; try with_reducible rfl)
    try simp only [Act.put, List.setIfInBounds_toArray, List.set_cons_zero, List.set_cons_succ]
    refine' wpAnyJ_takeW (i := 2) (oi := { dst := some 33, op := Op.fieldAddr 109 (Operand.tmp 32) 2, type := 0, pos := "world.go:237", after := #[{ on := 1, ground := Ground.data }], guard := none }) (v := _) rfl (by kernel_rfl) (by kernel_rfl) (by kernel_rfl) (fun _ _ _ h => h) (Or.inl ⟨by rfl, ?hyC3⟩) ?reC3
    case hyC3 => (intro W hSw; (try dsimp only at hSw); go_simp; try with_reducible rfl)
    try simp only [Act.put, List.setIfInBounds_toArray, List.set_cons_zero, List.set_cons_succ]
    refine' wpAnyJ_take (i := 3) (oi := { dst := some 34, op := Op.load 106 (Operand.tmp 33), type := 106, pos := "world.go:237", after := #[{ on := 2, ground := Ground.data }], guard := none }) (v := _) rfl (by kernel_rfl) (by kernel_rfl) (by kernel_rfl) (by kernel_rfl) (fun _ _ _ h => h) (Or.inl ⟨by rfl, ?hyC4⟩) (by assumption) ?reC4
    case hyC4 => (intro W hSw; (try dsimp only at hSw); go_simp; try with_reducible rfl)
    try simp only [Act.put, List.setIfInBounds_toArray, List.set_cons_zero, List.set_cons_succ]
    refine' wpAnyJ_take (i := 4) (oi := { dst := some 35, op := Op.load 29 (Operand.tmp 3), type := 29, pos := "world.go:237", after := #[], guard := none }) (v := _) rfl (by kernel_rfl) (by kernel_rfl) (by kernel_rfl) (by kernel_rfl) (fun _ _ _ h => h) (Or.inl ⟨by rfl, ?hyC5⟩) (by assumption) ?reC5
    case hyC5 => (intro W hSw; (try dsimp only at hSw); go_simp; try with_reducible rfl)
    try simp only [Act.put, List.setIfInBounds_toArray, List.set_cons_zero, List.set_cons_succ]
    refine wpAnyJ_ready (rs := [5]) (by kernel_rfl) (by simp) ?_
    refine AllReadyJ.cons (o := { dst := none, op := Op.call { callee := Callee.builtin Builtin.delete, args := #[Operand.tmp 34, Operand.tmp 35], argTypes := #[106, 29] }, type := 0, pos := "world.go:237", after := #[{ on := 3, ground := Ground.data }, { on := 4, ground := Ground.data }], guard := none }) rfl (fun K hK => ?_) AllReadyJ.nil
    go_simp
    refine hK.out _ _ (fun _ _ => ⟨y2, y0, y1⟩) ?_
    clear hK K
    try simp only [Act.put, List.setIfInBounds_toArray, List.set_cons_zero, List.set_cons_succ]
    refine wpAnyJ_done (by kernel_rfl) ?_ _
    refine NoPanic.normal ?_
    go_wp2_with fail
    go_end0
    exact ⟨rfl, HE.out⟩
  · have EQ : Hid (lessQ q T s = q) := by unfold lessQ Hid; rw [if_neg hm]
    have H4 : Hid (Wx 0 w3 o3 gw vk gp gm gt (M + 1) ks gs fr f (lessQ q T s) (lessT T s i) ∧ Wk own o3 w w3 ∧ w3.heap[kx]? = some (.cells #[.int .i64 a, .int .i64 b] 29 (0, 0)) ∧ o3 kx = 0) := by
      rw [EQ.out]
      exact H3.out
    have hm2 : ¬ (((T s).1.length - 1 : Nat) : Int) = 0 := by have := HI.out; omega
    generalize (T s).1.length - 1 = m at *
    have t1 : ((m : Int) == 0) = false := by rw [beq_eq_false_iff_ne]; exact hm2
    clear hm EQ
    go_wp2_with fail
    refine JL.out.mono ?_
    rintro e w3' ⟨rfl, rfl⟩
    clear JL
    obtain ⟨w3, rfl⟩ : ∃ X, X = w3' := ⟨_, rfl⟩
    clear z0 z1
    obtain ⟨-, -, c2, c3⟩ := H4.out.1.cells
    obtain ⟨z0, z1⟩ := kx_cells H4.out.2.2.1 (below_drew w3)
    have B5 := below_drew w3
    have H5 := H4.out.1.later B5
    obtain ⟨w6, hst, hmp6, htn6⟩ := H5.mp.drop (a, b) HB.out 0
    have HE : Hid (∃ own', Wx 0 w6 own' gw vk gp gm gt (M + 1) ks gs fr (fun x => if x = (a, b) then none else f x) (lessQ q T s) (lessT T s i) ∧ Wk own own' w w6) :=
      ⟨_, H5.sets htn6 hmp6 (Nat.le_refl _), (H4.out.2.1.trans (Wk.later B5)).trans (Wk.of (mv_turned htn6) (fun k _ e => by rw [e, H5.1.2.1]; decide))⟩
    have hne : ¬ kx = gm := fun e => by have := H4.out.1.1.2.1; rw [← e, H4.out.2.2.2] at this; omega
    obtain ⟨y0, y1⟩ := kx_cells ((mv_turned htn6).at (w := w3.drew) H4.out.2.2.1 hne) (Below.refl _ w6)
    have hnw : ¬ gw = gm := fun e => by have h1 := H4.out.1.1.1; have h2 := H4.out.1.1.2.1; rw [← e, h1] at h2; omega
    have y2 : w6.cell? ⟨gw, 2, none⟩ = some (.map (some gm)) := (mv_turned htn6).cell (w := w3.drew) c2 hnw
    dsimp only at hst
    clear H5 hmp6 htn6 hne hnw B5
    go_upto_region 6 with fail
    refine wp_region_noPanic ?_
    refine wp_region_late (J := fun i => i != 99) (S := fun W => W.cell? ⟨gw, 2, none⟩ = some (.map (some gm)) ∧ W.cell? ⟨kx, 0, none⟩ = some (.int .i64 a) ∧ W.cell? ⟨kx, 1, none⟩ = some (.int .i64 b)) (by kernel_rfl) ⟨c2, z0, z1⟩ (fun hHeld => ?_)
    refine' wpAnyJ_takeW (i := 0) (oi := { dst := some 31, op := Op.move (Operand.tmp 0), type := 37, pos := "world.go:237", after := #[], guard := none }) (v := _) rfl (by kernel_rfl) (by kernel_rfl) (by kernel_rfl) (fun _ _ _ h => h) (Or.inl ⟨by rfl, ?hyD1⟩) ?reD1
    case hyD1 => (intro W hSw; (try dsimp only at hSw); go_simp; try with_reducible rfl)
    try simp only [Act.put, List.setIfInBounds_toArray, List.set_cons_zero, List.set_cons_succ]
    refine' wpAnyJ_takeW (i := 1) (oi := { dst := some 32, op := Op.nilCheck (Operand.tmp 31), type := 0, pos := "world.go:237", after := #[{ on := 0, ground := Ground.data }], guard := none }) (v := _) rfl (by kernel_rfl) (by kernel_rfl) (by kernel_rfl) (fun _ _ _ h => h) (Or.inl ⟨by rfl, ?hyD2⟩) ?reD2
    case hyD2 => (intro W hSw; (try dsimp only at hSw); go_simp; try with_reducible rfl)
    try simp only [Act.put, List.setIfInBounds_toArray, List.set_cons_zero, List.set_cons_succ]
    refine' wpAnyJ_takeW (i := 2) (oi := { dst := some 33, op := Op.fieldAddr 109 (Operand.tmp 32) 2, type := 0, pos := "world.go:237", after := #[{ on := 1, ground := Ground.data }], guard := none }) (v := _) rfl (by kernel_rfl) (by kernel_rfl) (by kernel_rfl) (fun _ _ _ h => h) (Or.inl ⟨by rfl, ?hyD3⟩) ?reD3
    case hyD3 => (intro W hSw; (try dsimp only at hSw); go_simp; try with_reducible rfl)
    try simp only [Act.put, List.setIfInBounds_toArray, List.set_cons_zero, List.set_cons_succ]
    refine' wpAnyJ_take (i := 3) (oi := { dst := some 34, op := Op.load 106 (Operand.tmp 33), type := 106, pos := "world.go:237", after := #[{ on := 2, ground := Ground.data }], guard := none }) (v := _) rfl (by kernel_rfl) (by kernel_rfl) (by kernel_rfl) (by kernel_rfl) (fun _ _ _ h => h) (Or.inl ⟨by rfl, ?hyD4⟩) (by assumption) ?reD4
    case hyD4 => (intro W hSw; (try dsimp only at hSw); go_simp; try with_reducible rfl)
    try simp only [Act.put, List.setIfInBounds_toArray, List.set_cons_zero, List.set_cons_succ]
    refine' wpAnyJ_take (i := 4) (oi := { dst := some 35, op := Op.load 29 (Operand.tmp 3), type := 29, pos := "world.go:237", after := #[], guard := none }) (v := _) rfl (by kernel_rfl) (by kernel_rfl) (by kernel_rfl) (by kernel_rfl) (fun _ _ _ h => h) (Or.inl ⟨by rfl, ?hyD5⟩) (by assumption) ?reD5
    case hyD5 => (intro W hSw; (try dsimp only at hSw); go_simp; try with_reducible rfl)
    try simp only [Act.put, List.setIfInBounds_toArray, List.set_cons_zero, List.set_cons_succ]
    refine wpAnyJ_ready (rs := [5]) (by kernel_rfl) (by simp) ?_
    refine AllReadyJ.cons (o := { dst := none, op := Op.call { callee := Callee.builtin Builtin.delete, args := #[Operand.tmp 34, Operand.tmp 35], argTypes := #[106, 29] }, type := 0, pos := "world.go:237", after := #[{ on := 3, ground := Ground.data }, { on := 4, ground := Ground.data }], guard := none }) rfl (fun K hK => ?_) AllReadyJ.nil
    go_simp
    refine hK.out _ _ (fun _ _ => ⟨y2, y0, y1⟩) ?_
    clear hK K
    try simp only [Act.put, List.setIfInBounds_toArray, List.set_cons_zero, List.set_cons_succ]
    refine wpAnyJ_done (by kernel_rfl) ?_ _
    refine NoPanic.normal ?_
    go_wp2_with fail
    go_end0
    exact ⟨rfl, HE.out⟩
end
end Go.Proofs.YtafmiolehlagkaaGreat
