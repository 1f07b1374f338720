/-
  At and Lives.
-/
import Derived.Test.YtfjfimmbdnfeiaaIPool
import Derived.Laws.ResultCell
namespace Go.Proofs.Ytfjfimmbdnfeiaa
open Go.RowKit
set_option maxRecDepth 100000
set_option maxHeartbeats 1000000 in
theorem at_neg (x : Int) (g n : Nat) (vg vl vf : Value) (gs fr : List Nat) (lv : List (Nat × Nat)) (w : World) (_h : Pm w g n vg vl vf gs fr lv) (hx : x < 0) :
    Calls Try.prog 34 #[.pointer (some ⟨g, 0, none⟩), .int .i64 x] w fun e w' => e = .returned (.tuple #[ev (0, 0), .int .i64 41]) ∧ Below w.heap.size w w' := by
  go_enter Try.func34, Try.ntmps34
  go_wp2_with fail
  (try simp only [Exit.inBlock, Exit.then])
  refine bodyPost_ret (v := .tuple #[ev (0, 0), .int .i64 41]) ?_ rfl ⟨rfl, below_alloc w _⟩
  rw [results_cell_tmp rfl]
  go_simp
  rfl
set_option maxHeartbeats 1000000 in
theorem at_far (x : Int) (g n : Nat) (vg vl vf : Value) (gs fr : List Nat) (lv : List (Nat × Nat)) (w : World) (h : Pm w g n vg vl vf gs fr lv) (hx : 0 ≤ x) (hx2 : (lv.length : Int) ≤ x) :
    Calls Try.prog 34 #[.pointer (some ⟨g, 0, none⟩), .int .i64 x] w fun e w' => e = .returned (.tuple #[ev (0, 0), .int .i64 41]) ∧ Below w.heap.size w w' := by
  have c2 : ∀ o, (w.alloc o).cell? ⟨g, 2, none⟩ = some vl := fun o => (h.later (below_alloc w o)).cell.2.2.1
  obtain ⟨ao, c, rfl⟩ := own_len h.2.2.1
  clear h
  have t1 : ¬ x < 0 := by omega
  go_enter Try.func34, Try.ntmps34
  go_wp2_with fail
  (try simp only [Exit.inBlock, Exit.then])
  refine bodyPost_ret (v := .tuple #[ev (0, 0), .int .i64 41]) ?_ rfl ⟨rfl, below_alloc w _⟩
  rw [results_cell_tmp rfl]
  go_simp
  rfl
set_option maxHeartbeats 1000000 in
theorem at_in (x g n : Nat) (vg vl vf : Value) (gs fr : List Nat) (lv : List (Nat × Nat)) (w : World) (h : Pm w g n vg vl vf gs fr lv) (hx : x < lv.length) :
    Calls Try.prog 34 #[.pointer (some ⟨g, 0, none⟩), .int .i64 (x : Int)] w fun e w' => e = .returned (.tuple #[ev (lv[x]), .int .i64 (if lv[x] = (0, 0) then 41 else 0)]) ∧ Below w.heap.size w w' := by
  have c2 : ∀ o, (w.alloc o).cell? ⟨g, 2, none⟩ = some vl := fun o => (h.later (below_alloc w o)).cell.2.2.1
  obtain ⟨gl, c, rfl, hc1, hc2⟩ := own_form h.2.2.1 (by omega)
  have e1 : ∀ o, (w.alloc o).cell? ⟨gl, x * 2, none⟩ = some (.int .i64 (lv[x].1 : Int)) := fun o => (i_own_ent (h.later (below_alloc w o)).2.2.1 x hx).1
  have e2 : ∀ o, (w.alloc o).cell? ⟨gl, x * 2 + 1, none⟩ = some (.int .i64 (lv[x].2 : Int)) := fun o => (i_own_ent (h.later (below_alloc w o)).2.2.1 x hx).2
  generalize lv[x] = p at *
  obtain ⟨a, b⟩ := p
  clear h
  have t1 : ¬ (x : Int) < 0 := by omega
  have t2 : (x : Int) < (lv.length : Int) := by omega
  have t3 : ¬ (lv.length : Int) ≤ (x : Int) := by omega
  go_enter Try.func34, Try.ntmps34
  go_wp2_with fail
  all_goals
    (try simp only [Exit.inBlock, Exit.then])
    refine bodyPost_ret (v := .tuple #[ev (_, _), .int .i64 _]) ?_ rfl ⟨rfl, below_alloc w _⟩
    rw [results_cell_tmp rfl]
    go_simp
    rfl
/-- Who lives under a number. -/
def isOn (gs fr : List Nat) (x : Int) : Bool := decide (0 ≤ x) && decide (x.toNat < gs.length) && on gs fr x.toNat
def atOf (gs fr : List Nat) (x : Int) : Nat × Nat := if isOn gs fr x then (x.toNat, gs.getD x.toNat 0) else (0, 0)
theorem at_any {w : World} {S : Nat → Prop} {g n : Nat} {gs fr : List Nat} (x : Int) (h : Pl w S g n gs fr) :
    Calls Try.prog 34 #[.pointer (some ⟨g, 0, none⟩), .int .i64 x] w fun e w' => e = .returned (.tuple #[ev (atOf gs fr x), .int .i64 (if isOn gs fr x then 0 else 41)]) ∧ Below w.heap.size w w' := by
  obtain ⟨⟨vg, vl, vf, hp, _⟩, ho⟩ := h
  by_cases h0 : 0 ≤ x
  · by_cases h1 : x.toNat < gs.length
    · obtain ⟨i, rfl⟩ : ∃ i : Nat, x = (i : Int) := ⟨x.toNat, by omega⟩
      have hi : i < gs.length := by omega
      refine (at_in i g n vg vl vf gs fr _ w hp (by rw [lvOf_len]; exact hi)).mono ?_
      rw [lvOf_at gs fr i hi]
      have hg := ho.gen i hi
      cases hon : on gs fr i with
      | true =>
        have e : isOn gs fr (i : Int) = true := by simp [isOn, hon, hi]
        simp only [atOf, e]
        have hne : ¬ (i, gs.getD i 0) = (0, 0) := fun hh => by
          have := congrArg Prod.snd hh
          simp only at this
          omega
        simp only [if_true, hne, if_false, Int.toNat_natCast]
        exact fun _ _ hh => hh
      | false =>
        have e : isOn gs fr (i : Int) = false := by simp [isOn, hon]
        simp only [atOf, e]
        exact fun _ _ hh => hh
    · have e : isOn gs fr x = false := by simp [isOn, h1]
      simp only [atOf, e]
      exact at_far x g n vg vl vf gs fr _ w hp h0 (by rw [lvOf_len]; omega)
  · have e : isOn gs fr x = false := by simp [isOn, h0]
    simp only [atOf, e]
    exact at_neg x g n vg vl vf gs fr _ w hp (by omega)
def livesOf (gs fr : List Nat) (a b : Int) : Bool := isOn gs fr a && decide (((gs.getD a.toNat 0 : Nat) : Int) = b)
set_option maxHeartbeats 1000000 in
theorem lives_any {w : World} {S : Nat → Prop} {g n : Nat} {gs fr : List Nat} (a b : Int) (h : Pl w S g n gs fr) :
    Calls Try.prog 20 #[.pointer (some ⟨g, 0, none⟩), .agg #[.int .i64 a, .int .i64 b]] w fun e w' => e = .returned (.bool (livesOf gs fr a b)) ∧ Below w.heap.size w w' := by
  have HA := hide (at_any a (h.later (below_alloc w (.cells #[.int .i64 a, .int .i64 b] 33))))
  clear h
  obtain ⟨p, hp⟩ : ∃ p, p = atOf gs fr a := ⟨_, rfl⟩
  rw [← hp] at HA
  cases hon : isOn gs fr a with
  | false =>
    rw [hon] at HA
    have HR : Hid (livesOf gs fr a b = false) := by simp [Hid, livesOf, hon]
    clear hp hon
    go_enter Try.func20, Try.ntmps20
    go_wp2_with fail
    refine HA.out.mono ?_
    rintro e w1 ⟨rfl, hb⟩
    have HB := hide (below_on (below_alloc w _) hb)
    clear hb HA
    unfold ev
    go_wp2_with fail
    go_ret
    rw [HR.out]
    exact ⟨rfl, below_on HB.out (below_alloc w1 _)⟩
  | true =>
    rw [hon] at HA
    have hx : p = (a.toNat, gs.getD a.toNat 0) := by rw [hp, atOf, hon]; rfl
    have h0 : 0 ≤ a := by
      have := hon
      simp [isOn] at this
      exact this.1.1
    have HR : Hid (livesOf gs fr a b = decide ((p.2 : Int) = b)) := by simp [Hid, livesOf, hon, hx]
    have h1 : (p.1 : Int) = a := by rw [hx]; simp; omega
    obtain ⟨p1, p2⟩ := p
    simp only at h1 HR
    subst h1
    clear hp hx hon
    go_enter Try.func20, Try.ntmps20
    go_wp2_with fail
    refine HA.out.mono ?_
    rintro e w1 ⟨rfl, hb⟩
    have c0 : ∀ o, (w1.alloc o).cell? ⟨w.heap.size, 0, none⟩ = some (.int .i64 (p1 : Int)) := fun o => by
      rw [(below_on hb (below_alloc w1 o)).cell (p := ⟨w.heap.size, 0, none⟩) (by simp)]
      simp
    have c1 : ∀ o, (w1.alloc o).cell? ⟨w.heap.size, 1, none⟩ = some (.int .i64 b) := fun o => by
      rw [(below_on hb (below_alloc w1 o)).cell (p := ⟨w.heap.size, 1, none⟩) (by simp)]
      simp
    have HB := hide (below_on (below_alloc w _) hb)
    clear hb HA
    unfold ev
    go_wp2_with fail
    all_goals
      go_ret
      rw [HR.out]
      refine ⟨?_, below_on HB.out (below_alloc w1 _)⟩
      simp [*]
end Go.Proofs.Ytfjfimmbdnfeiaa
