/-
  Buffer, full: Rows of a world in which nobody lives.
-/
import Derived.Test.YtiolaenkfhcajaaGreatBWor
import Derived.Maps.RangeWalk
namespace Go.Proofs.YtiolaenkfhcajaaGreat
open Go.RowKit
set_option maxRecDepth 100000
theorem qins_none (ao : Option Addr) (c : Nat) (fv : Value) (w : World) : Calls Tryz.prog 60 #[.slice ao 0 c, .int .i64 0, .int .i64 0, fv] w fun e w' => e = .returned (.tuple #[]) ∧ w' = w := by
  go_enter Tryz.func60, Tryz.ntmps60
  go_wp2_with fail
  refine wp_loop_rounds 1 ?_
  rw [rounds_succ]
  go_wp2_with fail
  go_end0
  exact ⟨rfl, rfl⟩
set_option maxHeartbeats 2000000 in
theorem qpdq_none (ao : Option Addr) (c : Nat) (fv : Value) (w : World) (lim : Int) : Calls Tryz.prog 42 #[.slice ao 0 c, .int .i64 0, .int .i64 0, .int .i64 lim, fv] w fun e w' => e = .returned (.tuple #[]) ∧ w' = w := by
  have J := hide (qins_none ao c fv w)
  go_enter Tryz.func42, Tryz.ntmps42
  go_wp2_with fail
  refine wp_loop_rounds 1 ?_
  rw [rounds_succ]
  go_wp2_with fail
  refine J.out.mono ?_
  rintro e w' ⟨rfl, rfl⟩
  go_wp2_with fail
  (try simp only [Exit.inBlock, Exit.then]); refine bodyPost_ret (results_none rfl _ _ _) rfl ?_
  exact ⟨rfl, rfl⟩
set_option maxHeartbeats 2000000 in
theorem qsort_none (ao : Option Addr) (c : Nat) (fv : Value) (w : World) : Calls Tryz.prog 22 #[.slice ao 0 c, fv] w fun e w' => e = .returned (.tuple #[]) ∧ w' = w := by
  have JL := hide (len_small 0 w (by omega))
  have JP : Hid (∀ lim : Int, Calls Tryz.prog 42 #[.slice ao 0 c, .int .i64 0, .int .i64 0, .int .i64 lim, fv] w fun e w' => e = .returned (.tuple #[]) ∧ w' = w) := fun lim => qpdq_none ao c fv w lim
  go_enter Tryz.func22, Tryz.ntmps22
  go_wp2_with fail
  refine JL.out.mono ?_
  rintro e w' ⟨⟨l, rfl⟩, rfl⟩
  go_wp2_with fail
  refine (JP.out _).mono ?_
  rintro e w' ⟨rfl, rfl⟩
  go_wp2_with fail
  go_end0
  exact ⟨rfl, rfl⟩
theorem wf_in {x : Int} (h : (Lit.int .i64 x).wf = true) : -9223372036854775808 ≤ x ∧ x ≤ 9223372036854775807 := by
  simp [Lit.wf, IntKind.min, IntKind.max, IntKind.signed, IntKind.bits] at h
  exact h
theorem key_inv {v : Value} {kl : Lit} (h : keyOf Tryz.prog 36 v = some kl) : ∃ e : Int × Int, v = evz e ∧ InB e := by
  have hk : Tryz.prog.keyType 36 = true := by kernel_rfl
  have hc : Tryz.prog.cellsOf 36 = 2 := by kernel_rfl
  have hc3 : Tryz.prog.cellsOf 3 = 1 := by kernel_rfl
  obtain ⟨d, hd⟩ : ∃ d, Tryz.prog.types.size + 1 = d + 2 := ⟨190, by kernel_rfl⟩
  unfold keyOf at h
  rw [Tryz.underlying36] at h
  simp only [hk, Bool.true_and] at h
  split at h
  · rename_i hf
    rw [Option.map_eq_some_iff] at h
    obtain ⟨ls, hl, -⟩ := h
    rw [hd] at hl
    have hv : ∃ x y, v = .agg #[x, y] := by
      unfold Value.formed at hf
      rw [Tryz.underlying36] at hf
      split at hf
      · rename_i cs
        simp only [hc, beq_iff_eq] at hf
        obtain ⟨l⟩ := cs
        match l, hf with
        | [x, y], _ => exact ⟨x, y, rfl⟩
      · cases hf
      · cases hf
    obtain ⟨x, y, rfl⟩ := hv
    have key : ∀ (z : Value) (l : List Lit), Tryz.prog.keyLits (d + 1) 3 [z] = some l → ∃ a, z = .int .i64 a ∧ (Lit.int .i64 a).wf = true := by
      intro z l hz
      cases z <;> simp [Program.keyLits, Tryz.underlying3] at hz
      rename_i q n
      obtain ⟨⟨rfl, h2⟩, -⟩ := hz
      exact ⟨n, rfl, h2⟩
    unfold Program.keyLits at hl
    rw [Tryz.underlying36] at hl
    generalize hG : Tryz.prog.keyLits (d + 1) = G at *
    simp [Value.cells, hc, hc3, List.mapM_cons] at hl
    cases hx : G 3 [x] with
    | none => rw [hx] at hl; simp at hl
    | some lx =>
      cases hy : G 3 [y] with
      | none => rw [hx, hy] at hl; simp at hl
      | some ly =>
        obtain ⟨a, rfl, ha⟩ := key x lx hx
        obtain ⟨b, rfl, hb⟩ := key y ly hy
        exact ⟨(a, b), rfl, wf_in ha, wf_in hb⟩
  · cases h
/-- A range over a map of entities under way: E: who came. -/
def Rg (w : World) (gm r n : Nat) (f : Int × Int → Option Nat) (E : List (Int × Int)) (cnt : Nat) : Prop :=
  ∃ (D : DataW Unit) (left : Lit → Bool), w.ranges Tryz.prog 36 (plainElem Tryz.prog 3) gm r n D left cnt ∧ E.Nodup ∧ (∀ e ∈ E, InB e ∧ (f e).isSome = true) ∧ ∀ e, InB e → ∀ kl, keyOf Tryz.prog 36 (evz e) = some kl → (left kl = true ↔ (f e).isSome = true ∧ e ∉ E)
section
variable {w w' : World} {gm r n cnt : Nat} {f : Int × Int → Option Nat} {E : List (Int × Int)}
theorem Rg.kept {row : Option Nat} (h : Rg w gm r n f E cnt) (hg : w.grownBy w' row) (h1 : some gm ≠ row) (h2 : some r ≠ row) : Rg w' gm r n f E cnt := by
  obtain ⟨D, left, a1, a2⟩ := h
  exact ⟨D, left, a1.kept hg h1 h2, a2⟩
theorem Rg.later (h : Rg w gm r n f E cnt) (hb : Below w.heap.size w w') : Rg w' gm r n f E cnt := h.kept (grown_later hb) (by simp) (by simp)
theorem Rg.left_eq (h : Rg w gm r n f E cnt) : w.rangeLeft gm r = cnt := by
  obtain ⟨D, left, a1, a2⟩ := h
  exact a1.left_eq
theorem Rg.start {D : DataW Unit} (h2 : ∀ e, InB e → ∀ kl, keyOf Tryz.prog 36 (evz e) = some kl → Maps.has D kl = (f e).isSome ∧ ∀ i, f e = some i → D.atKey kl (.lit (.int .i64 0)) = .lit (.int .i64 (i : Int))) (hr : w'.ranges Tryz.prog 36 (plainElem Tryz.prog 3) gm r n D (Maps.has D) (Maps.size D)) : Rg w' gm r n f [] (Maps.size D) :=
  ⟨D, _, hr, List.nodup_nil, fun e h => (by cases h), fun e he kl hk => (by rw [(h2 e he kl hk).1]; simp)⟩
theorem Rg.done (h : Rg w gm r n f E cnt) (hl : cnt = 0) : ∀ e, InB e → (f e).isSome = true → e ∈ E := by
  obtain ⟨D, left, a1, -, -, a4⟩ := h
  rcases a1.next keyed32 0 with ⟨_, b2, _⟩ | ⟨key, v, kl, y, w', cnt', _, _, _, _, _, _, c7, _⟩
  · intro e he hf
    obtain ⟨kl, hkl⟩ := key_of e he
    by_cases c : e ∈ E
    · exact c
    · have := (a4 e he kl hkl).2 ⟨hf, c⟩
      rw [b2 kl] at this
      cases this
  · omega
/-- The next one: nobody is left, or one comes. -/
theorem Rg.next (h : Rg w gm r n f E cnt) (ty : TypeId) :
    (cnt = 0 ∧ (Instr.next (.pointer (some ⟨r, 0, none⟩)) false ty).run Tryz.prog w = .ok (.tuple #[.bool false]) w) ∨
    ∃ (a b c : Int) (w' : World) (cnt' : Nat), InB (a, b) ∧ (f (a, b)).isSome = true ∧ (a, b) ∉ E ∧ (Instr.next (.pointer (some ⟨r, 0, none⟩)) false ty).run Tryz.prog w = .ok (.tuple #[.bool true, .agg #[.int .i64 a, .int .i64 b], .int .i64 c]) w' ∧ Rg w' gm r n f (E ++ [(a, b)]) cnt' ∧ cnt' < cnt ∧ w.grownBy w' (some r) ∧ w'.heap.size = w.heap.size ∧ (Instr.entry (.pointer (some ⟨r, 0, none⟩))).run Tryz.prog w' = .ok (.tuple #[.agg #[.int .i64 a, .int .i64 b], .int .i64 c]) w' := by
  obtain ⟨D, left, a1, a2, a3, a4⟩ := h
  rcases a1.next keyed32 ty with ⟨b1, b2, b3⟩ | ⟨key, v, kl, y, w', cnt', c1, c2, c3, c4, c5, c6, c7, c8, c9, c10⟩
  · exact .inl ⟨b1, b3⟩
  · obtain ⟨⟨a, b⟩, rfl, hin⟩ := key_inv c1
    obtain ⟨c, rfl, -⟩ := plainElem_int_inv Tryz.underlying3 c3
    have h1 := (a4 _ hin kl c1).1 c2
    refine .inr ⟨a, b, c, w', cnt', hin, h1.1, h1.2, c5, ⟨D, _, c6, ?_, fun e he => ?_, fun e he kx hkx => ?_⟩, c7, c8, c9, c10⟩
    · rw [List.nodup_append]
      refine ⟨a2, by simp, fun x hx y hy e => ?_⟩
      simp only [List.mem_singleton] at hy
      subst e
      exact h1.2 (hy ▸ hx)
    · rcases List.mem_append.1 he with he | he
      · exact a3 e he
      · rw [List.mem_singleton.1 he]
        exact ⟨hin, h1.1⟩
    · have hk : (kx.sameKey kl = true) ↔ e = (a, b) := by
        rw [WideAt.sameKey_iff (keyed32.key c1)]
        constructor
        · intro e'
          subst e'
          exact evz_inj (keyed32.inj hkx c1)
        · intro e'
          subst e'
          rw [hkx] at c1
          exact Option.some.inj c1
      have h4 := a4 e he kx hkx
      simp only [Bool.and_eq_true, Bool.not_eq_true', List.mem_append, List.mem_singleton, not_or]
      rw [← Bool.not_eq_true, hk, h4]
      exact ⟨fun h => ⟨h.1.1, h.1.2, h.2⟩, fun h => ⟨⟨h.1, h.2.1⟩, h.2.2⟩⟩
end
section
variable {w w' : World} {own : Nat → Nat} {gw gp gm gt M : Nat} {vk : Value} {ks : List Kind} {gs fr : List Nat} {q : Nat → Option Nat} {T : Nat → Ts}
set_option maxHeartbeats 4000000 in
theorem rows_none (h : Wx 0 w own gw vk gp gm gt M ks gs fr (fun _ => none) q T) :
    Calls Tryz.prog 11 #[.pointer (some ⟨gw, 0, none⟩)] w fun e w' => e = .returned (.slice none 0 0) ∧ Below w.heap.size w w' := by
  obtain ⟨D, hD, hcl⟩ := h.mp
  obtain ⟨-, -, c2, -⟩ := h.cells
  have HCL := hide hcl
  have JS : Hid (∀ W, Calls Tryz.prog 22 #[.slice none 0 0, .func (.func 23) #[] #[]] W fun e w' => e = .returned (.tuple #[]) ∧ w' = W) := fun W => qsort_none none 0 _ W
  clear h hcl
  go_enter Tryz.func11, Tryz.ntmps11
  go_wp2_with (at_range; refine wpList_range_own _ rfl _ 60 rfl 36 3 keyed32 Tryz.underlying60 _ gm M D rfl hD ?_; intro w0 hrg0 hg0 hs0)
  have H0 : Hid ((∃ cnt, Rg w0 gm w.heap.size M (fun _ => none) [] cnt) ∧ Below w.heap.size w w0) := ⟨⟨_, Rg.start HCL.out hrg0⟩, (Below.refl _ w).grown hg0 (Nat.le_refl _) (fun k e => by cases e)⟩
  clear hrg0 hg0 hs0 HCL hD c2
  go_loopw [3] (fun v3 W => v3 = .slice none 0 0 ∧ Hid ((∃ cnt, Rg W gm w.heap.size M (fun _ => none) [] cnt) ∧ Below w.heap.size w W)) (fun _ W => W.rangeLeft gm w.heap.size)
  case atStart => exact ⟨rfl, H0⟩
  case round =>
    obtain ⟨rfl, HI⟩ := hrel
    obtain ⟨⟨cnt, hr⟩, hb⟩ := HI.out
    have HB := hide hb
    rcases hr.next 0 with ⟨n1, n2⟩ | ⟨a, b, c, w1, cnt1, n1, n2, -⟩
    · clear hr hb HI n1
      go_wp2_with fail
      refine (JS.out _).mono ?_
      rintro e w9 ⟨rfl, rfl⟩
      go_wp2_with fail
      go_ret
      exact ⟨rfl, HB.out⟩
    · cases n2
end
end Go.Proofs.YtiolaenkfhcajaaGreat
