/-
  A scope in which the run jumps to several labels; the small questions on bytes.
-/
import Derived.Test.YtaaiogfbohndaaaDoorProg
import Derived.Test.YtaaiogfbohndaaaDoorMath
import Derived.WalkKit
import Derived.WalkSpells
import Derived.WalkLawsBesides
import Derived.Laws.CopyOwn
import Derived.Laws.AppendOwnNone
import Derived.Maps.AppendAt
import Derived.Laws.OwnMore
import Derived.Below
import Derived.RowKit
import Derived.Deep.DeepCutAuto
import Derived.Deep.RegionWith
import Derived.Deep.RegionLaw
import Derived.Deep.RegionHeld3
import Derived.Deep.QuietTactic
import Derived.Deep.CutBlock
import Derived.Deep.AppendLies
import Derived.BigQuiet
import Derived.BigRegion
import Derived.OrdersHeld
import Derived.WalkMore
import Derived.ScopeJumps
import Derived.Laws.ResultCell
namespace Go.Proofs.YtaaiogfbohndaaaDoor
open Go.RowKit
theorem hide {p : Prop} (h : p) : Hid p := h

/-- As Q; by a goto to a label: J of it. -/
def jumps (J : Nat → Act → World → Prop) (Q : Exit → Act → World → Prop) : Exit → Act → World → Prop
  | .goto l, a, w => J l a w
  | e, a, w => Q e a w
section
variable {Q : Exit → Act → World → Prop} {J : Nat → Act → World → Prop} {a : Act} {w : World}
theorem jumps_normal : jumps J Q .normal a w = Q .normal a w := rfl
theorem jumps_exit (id : Nat) : jumps J Q (.exit id) a w = Q (.exit id) a w := rfl
theorem jumps_ret : jumps J Q .ret a w = Q .ret a w := rfl
theorem jumps_panic (ch : List PanicEntry) : jumps J Q (.panic ch) a w = Q (.panic ch) a w := rfl
theorem jumps_goto (l : Nat) : jumps J Q (.goto l) a w = J l a w := rfl
end

theorem scope_many {P : Program} {a : Act} {w : World} {Q : Exit → Act → World → Prop} {c : Code} (J : Nat → Nat → Act → World → Prop)
    (hf : ∀ l m a w, J l m a w → ∃ r, findLabel c l = some r)
    (first : c.wp P (jumps (fun l a w => ∃ m, J l m a w) Q) a w)
    (pass : ∀ l m a w r, findLabel c l = some r → J l m a w → r.wp P (jumps (fun l' a' w' => ∃ m', m' < m ∧ J l' m' a' w') Q) a w) : (Code.scope c).wp P Q a w := by
  intro b k cs
  have key : ∀ m l a w r, findLabel c l = some r → J l m a w → ∃ e a' w', Q e a' w' ∧ Arrives P (lone (b.at a (.code r :: .inScope c :: k)) cs w) b k cs e a' w' := by
    intro m
    induction m using Nat.strongRecOn with
    | _ m ih =>
      intro l a w r hr hJ
      obtain ⟨e, a₁, w₁, hq, harr⟩ := pass l m a w r hr hJ b (.inScope c :: k) cs
      cases e with
      | normal => exact ⟨.normal, a₁, w₁, hq, Steps.trans harr (.one step_inScope)⟩
      | exit id => exact ⟨.exit id, a₁, w₁, hq, fun k' hk => harr k' (by simp [exitTo, hk])⟩
      | goto l' =>
        obtain ⟨m', hlt, hJ'⟩ := hq
        obtain ⟨r', hr'⟩ := hf _ _ _ _ hJ'
        have hg : gotoIn l' (.inScope c :: k) = some (.code r' :: .inScope c :: k) := by simp [gotoIn, hr']
        obtain ⟨e₂, a₂, w₂, hq₂, harr₂⟩ := ih m' hlt l' a₁ w₁ r' hr' hJ'
        exact ⟨e₂, a₂, w₂, hq₂, .of_steps (harr _ hg) harr₂⟩
      | ret => exact ⟨_, a₁, w₁, hq, harr⟩
      | panic ch => exact ⟨_, a₁, w₁, hq, harr⟩
      | outgrown => exact ⟨_, a₁, w₁, hq, harr⟩
  obtain ⟨e, a₁, w₁, hq, harr⟩ := first b (.inScope c :: k) cs
  cases e with
  | normal => exact ⟨.normal, a₁, w₁, hq, .head step_scope (Steps.trans harr (.one step_inScope))⟩
  | exit id => exact ⟨.exit id, a₁, w₁, hq, fun k' hk => .head step_scope (harr k' (by simp [exitTo, hk]))⟩
  | goto l' =>
    obtain ⟨m', hJ'⟩ := hq
    obtain ⟨r', hr'⟩ := hf _ _ _ _ hJ'
    have hg : gotoIn l' (.inScope c :: k) = some (.code r' :: .inScope c :: k) := by simp [gotoIn, hr']
    obtain ⟨e₂, a₂, w₂, hq₂, harr₂⟩ := key _ _ a₁ w₁ r' hr' hJ'
    exact ⟨e₂, a₂, w₂, hq₂, .of_steps (.head step_scope (harr _ hg)) harr₂⟩
  | ret => exact ⟨_, a₁, w₁, hq, .of_steps (.one step_scope) harr⟩
  | panic ch => exact ⟨_, a₁, w₁, hq, .of_steps (.one step_scope) harr⟩
  | outgrown => exact ⟨_, a₁, w₁, hq, .of_steps (.one step_scope) harr⟩

theorem scope_three {P : Program} {a : Act} {w : World} {Q : Exit → Act → World → Prop} {c x0 x1 x2 : Code} (J : Nat → Nat → Act → World → Prop)
    (hJ : ∀ l m a w, J l m a w → l < 3) (h0 : findLabel c 0 = some (Code.seq .skip x0)) (h1 : findLabel c 1 = some (Code.seq .skip x1)) (h2 : findLabel c 2 = some (Code.seq .skip x2))
    (p0 : ∀ m a w, J 0 m a w → x0.wp P (jumps (fun l' a' w' => ∃ m', m' < m ∧ J l' m' a' w') Q) a w)
    (p1 : ∀ m a w, J 1 m a w → x1.wp P (jumps (fun l' a' w' => ∃ m', m' < m ∧ J l' m' a' w') Q) a w)
    (p2 : ∀ m a w, J 2 m a w → x2.wp P (jumps (fun l' a' w' => ∃ m', m' < m ∧ J l' m' a' w') Q) a w)
    (first : (∀ m a w, J 0 m a w → x0.wp P (jumps (fun l a w => ∃ m, J l m a w) Q) a w) → c.wp P (jumps (fun l a w => ∃ m, J l m a w) Q) a w) : (Code.scope c).wp P Q a w := by
  have sk : ∀ {x : Code} {R : Exit → Act → World → Prop} {a : Act} {w : World}, x.wp P R a w → (Code.seq .skip x).wp P R a w := fun h => wp_seq (wp_skip h)
  refine scope_many J ?_ (first (fun m a w h => wp_mono (p0 m a w h) fun e a w hq => by cases e <;> first | exact hq | exact ⟨hq.choose, hq.choose_spec.2⟩)) ?_
  · intro l m a w h
    have := hJ l m a w h
    match l, this with
    | 0, _ => exact ⟨_, h0⟩
    | 1, _ => exact ⟨_, h1⟩
    | 2, _ => exact ⟨_, h2⟩
  · intro l m a w r hr h
    have := hJ l m a w h
    match l, this with
    | 0, _ => rw [h0] at hr; injection hr with hr; subst hr; exact sk (p0 m a w h)
    | 1, _ => rw [h1] at hr; injection hr with hr; subst hr; exact sk (p1 m a w h)
    | 2, _ => rw [h2] at hr; injection hr with hr; subst hr; exact sk (p2 m a w h)
theorem scope_five {P : Program} {a : Act} {w : World} {Q : Exit → Act → World → Prop} {c x0 x1 x2 x3 x4 : Code} (J : Nat → Nat → Act → World → Prop)
    (hJ : ∀ l m a w, J l m a w → l < 5) (h0 : findLabel c 0 = some (Code.seq .skip x0)) (h1 : findLabel c 1 = some (Code.seq .skip x1)) (h2 : findLabel c 2 = some (Code.seq .skip x2)) (h3 : findLabel c 3 = some (Code.seq .skip x3)) (h4 : findLabel c 4 = some (Code.seq .skip x4))
    (p0 : ∀ m a w, J 0 m a w → x0.wp P (jumps (fun l' a' w' => ∃ m', m' < m ∧ J l' m' a' w') Q) a w)
    (p1 : ∀ m a w, J 1 m a w → x1.wp P (jumps (fun l' a' w' => ∃ m', m' < m ∧ J l' m' a' w') Q) a w)
    (p2 : ∀ m a w, J 2 m a w → x2.wp P (jumps (fun l' a' w' => ∃ m', m' < m ∧ J l' m' a' w') Q) a w)
    (p3 : ∀ m a w, J 3 m a w → x3.wp P (jumps (fun l' a' w' => ∃ m', m' < m ∧ J l' m' a' w') Q) a w)
    (p4 : ∀ m a w, J 4 m a w → x4.wp P (jumps (fun l' a' w' => ∃ m', m' < m ∧ J l' m' a' w') Q) a w)
    (first : c.wp P (jumps (fun l a w => ∃ m, J l m a w) Q) a w) : (Code.scope c).wp P Q a w := by
  have sk : ∀ {x : Code} {R : Exit → Act → World → Prop} {a : Act} {w : World}, x.wp P R a w → (Code.seq .skip x).wp P R a w := fun h => wp_seq (wp_skip h)
  refine scope_many J ?_ (first) ?_
  · intro l m a w h
    have := hJ l m a w h
    match l, this with
    | 0, _ => exact ⟨_, h0⟩
    | 1, _ => exact ⟨_, h1⟩
    | 2, _ => exact ⟨_, h2⟩
    | 3, _ => exact ⟨_, h3⟩
    | 4, _ => exact ⟨_, h4⟩
  · intro l m a w r hr h
    have := hJ l m a w h
    match l, this with
    | 0, _ => rw [h0] at hr; injection hr with hr; subst hr; exact sk (p0 m a w h)
    | 1, _ => rw [h1] at hr; injection hr with hr; subst hr; exact sk (p1 m a w h)
    | 2, _ => rw [h2] at hr; injection hr with hr; subst hr; exact sk (p2 m a w h)
    | 3, _ => rw [h3] at hr; injection hr with hr; subst hr; exact sk (p3 m a w h)
    | 4, _ => rw [h4] at hr; injection hr with hr; subst hr; exact sk (p4 m a w h)
/-! ### Bytes -/
set_option maxRecDepth 1000000
theorem isblank_any (x : Nat) (hx : x < 256) (w : World) : Calls Tryd.prog 42 #[.int .u8 x] w fun e w' => e = .returned (.bool (isBl x)) ∧ w' = w := by
  go_enter Tryd.func42, Tryd.ntmps42
  go_wp2
  all_goals go_ret
  all_goals refine ⟨?_, rfl⟩
  all_goals simp_all [isBl]
  all_goals first | omega | (rw [Bool.eq_iff_iff]; simp; omega)
theorem isletter_any (x : Nat) (hx : x < 256) (w : World) : Calls Tryd.prog 24 #[.int .u8 x] w fun e w' => e = .returned (.bool (isLe x)) ∧ w' = w := by
  go_enter Tryd.func24, Tryd.ntmps24
  go_wp2
  all_goals go_ret
  all_goals refine ⟨?_, rfl⟩
  all_goals simp_all [isLe]
  all_goals first | omega | (rw [Bool.eq_iff_iff]; simp; omega)
theorem isdigit_any (x : Nat) (hx : x < 256) (w : World) : Calls Tryd.prog 25 #[.int .u8 x] w fun e w' => e = .returned (.bool (isDi x)) ∧ w' = w := by
  go_enter Tryd.func25, Tryd.ntmps25
  go_wp2
  all_goals go_ret
  all_goals refine ⟨?_, rfl⟩
  all_goals simp_all [isDi]
  all_goals first | omega | (rw [Bool.eq_iff_iff]; simp; omega)
theorem isinword_any (x : Nat) (hx : x < 256) (w : World) : Calls Tryd.prog 26 #[.int .u8 x] w fun e w' => e = .returned (.bool (isWo x)) ∧ w' = w := by
  have c24 := isletter_any x hx
  have c25 := isdigit_any x hx
  have hw : isWo x = (isLe x || isDi x || x == 95) := rfl
  generalize isLe x = b1 at c24 hw
  generalize isDi x = b2 at c25 hw
  cases b1 <;> cases b2
  all_goals go_enter Tryd.func26, Tryd.ntmps26
  all_goals go_wp2_with (first | (go_at_call 24; refine (c24 _).mono ?_; rintro e w' ⟨rfl, rfl⟩) | (go_at_call 25; refine (c25 _).mono ?_; rintro e w' ⟨rfl, rfl⟩))
  all_goals go_ret
  all_goals refine ⟨?_, rfl⟩
  all_goals rw [hw]
  all_goals simp
  all_goals first | omega | (rw [Bool.eq_iff_iff]; simp; omega)
theorem byte_at (s : ByteArray) (i : Nat) (h : i < s.size) : s.data[i]! = s[i] := by
  rw [getElem!_pos s.data i (by simpa using h)]; rfl
theorem peek_any (s : ByteArray) (p : Nat) (hp : p ≤ s.size) (w : World) : Calls Tryd.prog 27 #[.string s, .int .i64 p] w fun e w' => e = .returned (.int .u8 (bt s p)) ∧ w' = w := by
  go_enter Tryd.func27, Tryd.ntmps27
  go_wp2
  · rename_i h
    go_ret
    refine ⟨?_, rfl⟩
    simp only [beq_iff_eq] at h
    rw [bt_z s p (by omega)]
    rfl
  · rename_i h1 h
    go_ret
    refine ⟨?_, rfl⟩
    rw [bt_at s p h]
    rfl
  · rename_i h1 _ _ _ _ h
    simp only [beq_eq_false_iff_ne, ne_eq] at h1
    omega
end Go.Proofs.YtaaiogfbohndaaaDoor
