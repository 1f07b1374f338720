import Derived.Test.YtmfoehaeejhlpaaGreatDoorProg
import Derived.Test.YtmfoehaeejhlpaaGreatDoorGaAT
import Derived.WalkKit
import Derived.WalkSpells
import Derived.WalkLawsBesides
import Derived.Laws.CopyOwn
import Derived.Laws.AppendOwnNone
import Derived.Maps.AppendAt
import Derived.Laws.OwnMore
import Derived.Below
import Derived.RowKit
import Derived.Deep.DeepCutAuto
import Derived.Deep.RegionWith
import Derived.Deep.RegionLaw
import Derived.Deep.RegionHeld3
import Derived.Deep.QuietTactic
import Derived.Deep.CutBlock
import Derived.Deep.AppendLies
import Derived.BigQuiet
import Derived.BigRegion
import Derived.OrdersHeld
import Derived.WalkMore
import Derived.ScopeJumps
import Derived.Laws.ResultCell
import Derived.Lib.ParseIntB
import Derived.Lib.Bytealg
/-
  A scope in which the run jumps to several labels; the small questions on bytes.
-/
namespace Go.Proofs.YtmfoehaeejhlpaaGreatDoor.Le
open Go.RowKit
theorem hide {p : Prop} (h : p) : Hid p := h

/-- As Q; by a goto to a label: J of it. -/
def jumps (J : Nat → Act → World → Prop) (Q : Exit → Act → World → Prop) : Exit → Act → World → Prop
  | .goto l, a, w => J l a w
  | e, a, w => Q e a w
section
variable {Q : Exit → Act → World → Prop} {J : Nat → Act → World → Prop} {a : Act} {w : World}
theorem jumps_ret : jumps J Q .ret a w = Q .ret a w := rfl
end

theorem scope_many {P : Program} {a : Act} {w : World} {Q : Exit → Act → World → Prop} {c : Code} (J : Nat → Nat → Act → World → Prop)
    (hf : ∀ l m a w, J l m a w → ∃ r, findLabel c l = some r)
    (first : c.wp P (jumps (fun l a w => ∃ m, J l m a w) Q) a w)
    (pass : ∀ l m a w r, findLabel c l = some r → J l m a w → r.wp P (jumps (fun l' a' w' => ∃ m', m' < m ∧ J l' m' a' w') Q) a w) : (Code.scope c).wp P Q a w := by
  intro b k cs
  have key : ∀ m l a w r, findLabel c l = some r → J l m a w → ∃ e a' w', Q e a' w' ∧ Arrives P (lone (b.at a (.code r :: .inScope c :: k)) cs w) b k cs e a' w' := by
    intro m
    induction m using Nat.strongRecOn with
    | _ m ih =>
      intro l a w r hr hJ
      obtain ⟨e, a₁, w₁, hq, harr⟩ := pass l m a w r hr hJ b (.inScope c :: k) cs
      cases e with
      | normal => exact ⟨.normal, a₁, w₁, hq, Steps.trans harr (.one step_inScope)⟩
      | exit id => exact ⟨.exit id, a₁, w₁, hq, fun k' hk => harr k' (by simp [exitTo, hk])⟩
      | goto l' =>
        obtain ⟨m', hlt, hJ'⟩ := hq
        obtain ⟨r', hr'⟩ := hf _ _ _ _ hJ'
        have hg : gotoIn l' (.inScope c :: k) = some (.code r' :: .inScope c :: k) := by simp [gotoIn, hr']
        obtain ⟨e₂, a₂, w₂, hq₂, harr₂⟩ := ih m' hlt l' a₁ w₁ r' hr' hJ'
        exact ⟨e₂, a₂, w₂, hq₂, .of_steps (harr _ hg) harr₂⟩
      | ret => exact ⟨_, a₁, w₁, hq, harr⟩
      | panic ch => exact ⟨_, a₁, w₁, hq, harr⟩
      | outgrown => exact ⟨_, a₁, w₁, hq, harr⟩
  obtain ⟨e, a₁, w₁, hq, harr⟩ := first b (.inScope c :: k) cs
  cases e with
  | normal => exact ⟨.normal, a₁, w₁, hq, .head step_scope (Steps.trans harr (.one step_inScope))⟩
  | exit id => exact ⟨.exit id, a₁, w₁, hq, fun k' hk => .head step_scope (harr k' (by simp [exitTo, hk]))⟩
  | goto l' =>
    obtain ⟨m', hJ'⟩ := hq
    obtain ⟨r', hr'⟩ := hf _ _ _ _ hJ'
    have hg : gotoIn l' (.inScope c :: k) = some (.code r' :: .inScope c :: k) := by simp [gotoIn, hr']
    obtain ⟨e₂, a₂, w₂, hq₂, harr₂⟩ := key _ _ a₁ w₁ r' hr' hJ'
    exact ⟨e₂, a₂, w₂, hq₂, .of_steps (.head step_scope (harr _ hg)) harr₂⟩
  | ret => exact ⟨_, a₁, w₁, hq, .of_steps (.one step_scope) harr⟩
  | panic ch => exact ⟨_, a₁, w₁, hq, .of_steps (.one step_scope) harr⟩
  | outgrown => exact ⟨_, a₁, w₁, hq, .of_steps (.one step_scope) harr⟩

theorem scope_three {P : Program} {a : Act} {w : World} {Q : Exit → Act → World → Prop} {c x0 x1 x2 : Code} (J : Nat → Nat → Act → World → Prop)
    (hJ : ∀ l m a w, J l m a w → l < 3) (h0 : findLabel c 0 = some (Code.seq .skip x0)) (h1 : findLabel c 1 = some (Code.seq .skip x1)) (h2 : findLabel c 2 = some (Code.seq .skip x2))
    (p0 : ∀ m a w, J 0 m a w → x0.wp P (jumps (fun l' a' w' => ∃ m', m' < m ∧ J l' m' a' w') Q) a w)
    (p1 : ∀ m a w, J 1 m a w → x1.wp P (jumps (fun l' a' w' => ∃ m', m' < m ∧ J l' m' a' w') Q) a w)
    (p2 : ∀ m a w, J 2 m a w → x2.wp P (jumps (fun l' a' w' => ∃ m', m' < m ∧ J l' m' a' w') Q) a w)
    (first : (∀ m a w, J 0 m a w → x0.wp P (jumps (fun l a w => ∃ m, J l m a w) Q) a w) → c.wp P (jumps (fun l a w => ∃ m, J l m a w) Q) a w) : (Code.scope c).wp P Q a w := by
  have sk : ∀ {x : Code} {R : Exit → Act → World → Prop} {a : Act} {w : World}, x.wp P R a w → (Code.seq .skip x).wp P R a w := fun h => wp_seq (wp_skip h)
  refine scope_many J ?_ (first (fun m a w h => wp_mono (p0 m a w h) fun e a w hq => by cases e <;> first | exact hq | exact ⟨hq.choose, hq.choose_spec.2⟩)) ?_
  · intro l m a w h
    have := hJ l m a w h
    match l, this with
    | 0, _ => exact ⟨_, h0⟩
    | 1, _ => exact ⟨_, h1⟩
    | 2, _ => exact ⟨_, h2⟩
  · intro l m a w r hr h
    have := hJ l m a w h
    match l, this with
    | 0, _ => rw [h0] at hr; injection hr with hr; subst hr; exact sk (p0 m a w h)
    | 1, _ => rw [h1] at hr; injection hr with hr; subst hr; exact sk (p1 m a w h)
    | 2, _ => rw [h2] at hr; injection hr with hr; subst hr; exact sk (p2 m a w h)
theorem scope_five {P : Program} {a : Act} {w : World} {Q : Exit → Act → World → Prop} {c x0 x1 x2 x3 x4 : Code} (J : Nat → Nat → Act → World → Prop)
    (hJ : ∀ l m a w, J l m a w → l < 5) (h0 : findLabel c 0 = some (Code.seq .skip x0)) (h1 : findLabel c 1 = some (Code.seq .skip x1)) (h2 : findLabel c 2 = some (Code.seq .skip x2)) (h3 : findLabel c 3 = some (Code.seq .skip x3)) (h4 : findLabel c 4 = some (Code.seq .skip x4))
    (p0 : ∀ m a w, J 0 m a w → x0.wp P (jumps (fun l' a' w' => ∃ m', m' < m ∧ J l' m' a' w') Q) a w)
    (p1 : ∀ m a w, J 1 m a w → x1.wp P (jumps (fun l' a' w' => ∃ m', m' < m ∧ J l' m' a' w') Q) a w)
    (p2 : ∀ m a w, J 2 m a w → x2.wp P (jumps (fun l' a' w' => ∃ m', m' < m ∧ J l' m' a' w') Q) a w)
    (p3 : ∀ m a w, J 3 m a w → x3.wp P (jumps (fun l' a' w' => ∃ m', m' < m ∧ J l' m' a' w') Q) a w)
    (p4 : ∀ m a w, J 4 m a w → x4.wp P (jumps (fun l' a' w' => ∃ m', m' < m ∧ J l' m' a' w') Q) a w)
    (first : c.wp P (jumps (fun l a w => ∃ m, J l m a w) Q) a w) : (Code.scope c).wp P Q a w := by
  have sk : ∀ {x : Code} {R : Exit → Act → World → Prop} {a : Act} {w : World}, x.wp P R a w → (Code.seq .skip x).wp P R a w := fun h => wp_seq (wp_skip h)
  refine scope_many J ?_ (first) ?_
  · intro l m a w h
    have := hJ l m a w h
    match l, this with
    | 0, _ => exact ⟨_, h0⟩
    | 1, _ => exact ⟨_, h1⟩
    | 2, _ => exact ⟨_, h2⟩
    | 3, _ => exact ⟨_, h3⟩
    | 4, _ => exact ⟨_, h4⟩
  · intro l m a w r hr h
    have := hJ l m a w h
    match l, this with
    | 0, _ => rw [h0] at hr; injection hr with hr; subst hr; exact sk (p0 m a w h)
    | 1, _ => rw [h1] at hr; injection hr with hr; subst hr; exact sk (p1 m a w h)
    | 2, _ => rw [h2] at hr; injection hr with hr; subst hr; exact sk (p2 m a w h)
    | 3, _ => rw [h3] at hr; injection hr with hr; subst hr; exact sk (p3 m a w h)
    | 4, _ => rw [h4] at hr; injection hr with hr; subst hr; exact sk (p4 m a w h)
/-! ### Bytes -/
set_option maxRecDepth 1000000
theorem isblank_any (x : Nat) (hx : x < 256) (w : World) : Calls Tryz.prog 100 #[.int .u8 x] w fun e w' => e = .returned (.bool (isBl x)) ∧ w' = w := by
  go_enter Tryz.func100, Tryz.ntmps100
  go_wp2
  all_goals go_ret
  all_goals refine ⟨?_, rfl⟩
  all_goals simp_all [isBl]
  all_goals first | omega | (rw [Bool.eq_iff_iff]; simp; omega)
theorem isletter_any (x : Nat) (hx : x < 256) (w : World) : Calls Tryz.prog 69 #[.int .u8 x] w fun e w' => e = .returned (.bool (isLe x)) ∧ w' = w := by
  go_enter Tryz.func69, Tryz.ntmps69
  go_wp2
  all_goals go_ret
  all_goals refine ⟨?_, rfl⟩
  all_goals simp_all [isLe]
  all_goals first | omega | (rw [Bool.eq_iff_iff]; simp; omega)
theorem isdigit_any (x : Nat) (hx : x < 256) (w : World) : Calls Tryz.prog 70 #[.int .u8 x] w fun e w' => e = .returned (.bool (isDi x)) ∧ w' = w := by
  go_enter Tryz.func70, Tryz.ntmps70
  go_wp2
  all_goals go_ret
  all_goals refine ⟨?_, rfl⟩
  all_goals simp_all [isDi]
  all_goals first | omega | (rw [Bool.eq_iff_iff]; simp; omega)
theorem isinword_any (x : Nat) (hx : x < 256) (w : World) : Calls Tryz.prog 71 #[.int .u8 x] w fun e w' => e = .returned (.bool (isWo x)) ∧ w' = w := by
  have c24 := isletter_any x hx
  have c25 := isdigit_any x hx
  have hw : isWo x = (isLe x || isDi x || x == 95) := rfl
  generalize isLe x = b1 at c24 hw
  generalize isDi x = b2 at c25 hw
  cases b1 <;> cases b2
  all_goals go_enter Tryz.func71, Tryz.ntmps71
  all_goals go_wp2_with (first | (go_at_call 69; refine (c24 _).mono ?_; rintro e w' ⟨rfl, rfl⟩) | (go_at_call 70; refine (c25 _).mono ?_; rintro e w' ⟨rfl, rfl⟩))
  all_goals go_ret
  all_goals refine ⟨?_, rfl⟩
  all_goals rw [hw]
  all_goals simp
  all_goals first | omega | (rw [Bool.eq_iff_iff]; simp; omega)
theorem peek_any (s : ByteArray) (p : Nat) (hp : p ≤ s.size) (w : World) : Calls Tryz.prog 72 #[.string s, .int .i64 p] w fun e w' => e = .returned (.int .u8 (bt s p)) ∧ w' = w := by
  go_enter Tryz.func72, Tryz.ntmps72
  go_wp2
  · rename_i h
    go_ret
    refine ⟨?_, rfl⟩
    simp only [beq_iff_eq] at h
    rw [bt_z s p (by omega)]
    rfl
  · rename_i h1 h
    go_ret
    refine ⟨?_, rfl⟩
    rw [bt_at s p h]
    rfl
  · rename_i h1 _ _ _ _ h
    simp only [beq_eq_false_iff_ne, ne_eq] at h1
    omega
end Go.Proofs.YtmfoehaeejhlpaaGreatDoor.Le

namespace Go.Proofs.YtmfoehaeejhlpaaGreatDoor.Le

def valW : List UInt8 → Nat → Nat
  | [], acc => acc
  | c :: r, acc => valW r (acc * 10 + (c.toNat - 48))
def valL (acc : Nat) (l : List UInt8) : Nat := valW l acc
theorem valL_nil (acc : Nat) : valL acc [] = acc := by unfold valL; rw [valW]
theorem valL_cons (acc : Nat) (c : UInt8) (r : List UInt8) : valL acc (c :: r) = valL (acc * 10 + (c.toNat - 48)) r := by unfold valL; rw [valW]
theorem valL_ge (l : List UInt8) : ∀ acc : Nat, acc ≤ valL acc l := by
  induction l with
  | nil => intro acc; rw [valL_nil]; exact Nat.le_refl _
  | cons c r ih =>
    intro acc
    have := ih (acc * 10 + (c.toNat - 48))
    rw [valL_cons]
    omega
def Dig (l : List UInt8) : Prop := ∀ c ∈ l, isDi c.toNat = true
theorem isDi_iff (c : Nat) : isDi c = true ↔ 48 ≤ c ∧ c ≤ 57 := by simp [isDi]

theorem uintM_dig (l : List UInt8) : ∀ (acc : Nat), Dig l → acc ≤ 18446744073709551615 →
    Lib.parseUintM 18446744073709551615 acc l = if valL acc l ≤ 18446744073709551615 then .ok (valL acc l) else .range := by
  induction l with
  | nil => intro acc hd ha; rw [valL_nil, if_pos ha, Lib.parseUintM]
  | cons c r ih =>
    intro acc hd ha
    have hc := (isDi_iff _).1 (hd c (by simp))
    have hr : Dig r := fun x hx => hd x (by simp [hx])
    have hg := valL_ge r (acc * 10 + (c.toNat - 48))
    rw [valL_cons, Lib.parseUintM]
    rw [if_pos hc]
    by_cases h1 : 1844674407370955162 ≤ acc
    · rw [if_pos h1, if_neg (by omega)]
    · rw [if_neg h1]
      by_cases h2 : 18446744073709551615 < acc * 10 + (c.toNat - 48)
      · rw [if_pos h2, if_neg (by omega)]
      · rw [if_neg h2]
        exact ih _ hr (by omega)

theorem parseInt_dig (l : List UInt8) (hd : Dig l) (h0 : l ≠ []) :
    Lib.parseIntB 64 l = if valL 0 l < 9223372036854775808 then .ok (valL 0 l : Int) else .range := by
  cases l with
  | nil => exact absurd rfl h0
  | cons c r =>
    have hc := (isDi_iff _).1 (hd c (by simp))
    unfold Lib.parseIntB
    simp only []
    rw [if_neg (by omega)]
    have hu : Lib.parseUintB 64 (c :: r) = if valL 0 (c :: r) ≤ 18446744073709551615 then .ok (valL 0 (c :: r)) else .range := by
      unfold Lib.parseUintB
      rw [if_neg (by simp)]
      exact uintM_dig (c :: r) 0 hd (by omega)
    rw [hu]
    have hne : ¬ c.toNat = 45 := by omega
    generalize valL 0 (c :: r) = v
    by_cases h1 : v ≤ 18446744073709551615
    · rw [if_pos h1]
      simp only [hne, false_and, not_false_eq_true, true_and, if_false]
      by_cases h2 : 2 ^ (64 - 1) ≤ v
      · rw [if_pos h2, if_neg (by omega)]
      · rw [if_neg h2, if_pos (by omega)]
    · rw [if_neg h1, if_neg (by omega)]

theorem drop_cons (s : ByteArray) (i : Nat) (h : i < s.size) : s.data.toList.drop i = s[i] :: s.data.toList.drop (i + 1) := by
  have h' : i < s.data.toList.length := by simpa [← ByteArray.size_data] using h
  rw [List.drop_eq_getElem_cons h']
  rfl
theorem ext_data (s : ByteArray) (a b : Nat) : (s.extract a b).data.toList = (s.data.toList.drop a).take (b - a) := by
  rw [← Lib.toList_data, Lib.extract_toList]
theorem numV_val (s : ByteArray) : ∀ (k i acc : Nat), i + k ≤ s.size → numV (bt s) acc k i = valL acc ((s.data.toList.drop i).take k)
  | 0, i, acc, h => by rw [numV_zero, List.take_zero, valL_nil]
  | k + 1, i, acc, h => by
    rw [drop_cons s i (by omega)]
    rw [numV_succ, bt_at s i (by omega)]
    rw [List.take_succ_cons, valL_cons]
    exact numV_val s k (i + 1) _ (by omega)

theorem bt_ext (s : ByteArray) (a e i : Nat) (_he : e ≤ s.size) : bt (s.extract a e) i = if a + i < e then bt s (a + i) else 0 := by
  unfold bt
  rw [ext_data]
  simp only [List.getD_eq_getElem?_getD]
  by_cases h : a + i < e
  · rw [if_pos h, List.getElem?_take, if_pos (by omega), List.getElem?_drop]
  · rw [if_neg h, List.getElem?_take, if_neg (by omega)]
    rfl

theorem hasPrefix_two (l : List UInt8) (c d : UInt8) (hc : c ≠ 0) (hd : d ≠ 0) : Lib.hasPrefix l [c, d] = (l.getD 0 0 == c && l.getD 1 0 == d) := by
  unfold Lib.hasPrefix
  match l with
  | [] =>
    rw [Bool.eq_iff_iff]
    simp
    intro h
    exact absurd h.symm hc
  | [x] =>
    rw [Bool.eq_iff_iff]
    simp [List.isPrefixOf]
    intro _ h
    exact absurd h.symm hd
  | x :: y :: r =>
    rw [Bool.eq_iff_iff]
    simp [List.isPrefixOf]
    constructor
    · rintro ⟨rfl, rfl⟩; exact ⟨rfl, rfl⟩
    · rintro ⟨rfl, rfl⟩; exact ⟨rfl, rfl⟩

end Go.Proofs.YtmfoehaeejhlpaaGreatDoor.Le
