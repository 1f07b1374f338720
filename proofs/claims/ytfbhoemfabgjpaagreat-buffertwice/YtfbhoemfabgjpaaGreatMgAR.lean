import Derived.Test.YtfbhoemfabgjpaaGreatMgAQ
import Derived.Test.YtfbhoemfabgjpaaGreatMgAC
import Derived.Shelf.SlMaps.Clone
import Derived.Test.YtfbhoemfabgjpaaGreatMgAD
/-
  World: Shapes: a map from sets to how many.
-/
namespace Go.Proofs.YtfbhoemfabgjpaaGreat
open Go.RowKit
set_option maxRecDepth 100000
/-- A range over the map of tables under way: S: which sets came. -/
def Rq (w : World) (gm r n : Nat) (q : Nat → Option Nat) (S : List Nat) (cnt : Nat) : Prop :=
  ∃ (D : DataW Nat) (left : Lit → Bool), w.ranges Tryz.prog 3 ptrElem gm r n D left cnt ∧ S.Nodup ∧ (∀ s ∈ S, s < 9007199254740992 ∧ (q s).isSome = true) ∧ (∀ s : Nat, s < 9007199254740992 → (left (.int .i64 (s : Int)) = true ↔ (q s).isSome = true ∧ s ∉ S)) ∧ (∀ kl, left kl = true → ∃ s : Nat, s < 9007199254740992 ∧ kl = .int .i64 (s : Int)) ∧ ∀ s : Nat, s < 9007199254740992 → ∀ g, q s = some g → D.atKey (.int .i64 (s : Int)) .nil = .held g
section
variable {w w' : World} {gm r n cnt : Nat} {q : Nat → Option Nat} {S : List Nat}
theorem Rq.kept {row : Option Nat} (h : Rq w gm r n q S cnt) (hg : w.grownBy w' row) (h1 : some gm ≠ row) (h2 : some r ≠ row) : Rq w' gm r n q S cnt := by
  obtain ⟨D, left, a1, a2⟩ := h
  exact ⟨D, left, a1.kept hg h1 h2, a2⟩
theorem Rq.left_eq (h : Rq w gm r n q S cnt) : w.rangeLeft gm r = cnt := by
  obtain ⟨D, left, a1, a2⟩ := h
  exact a1.left_eq
theorem Rq.start {D : DataW Nat} (h2 : ∀ s : Nat, s < 9007199254740992 → Maps.has D (.int .i64 (s : Int)) = (q s).isSome ∧ ∀ g, q s = some g → D.atKey (.int .i64 (s : Int)) .nil = .held g) (hz : ∀ kl, Maps.has D kl = true → ∃ s : Nat, s < 9007199254740992 ∧ kl = .int .i64 (s : Int)) (hr : w'.ranges Tryz.prog 3 ptrElem gm r n D (Maps.has D) (Maps.size D)) : Rq w' gm r n q [] (Maps.size D) :=
  ⟨D, _, hr, List.nodup_nil, fun e h => (by cases h), fun s hs => (by rw [(h2 s hs).1]; simp), hz, fun s hs => (h2 s hs).2⟩
theorem Rq.done (h : Rq w gm r n q S cnt) (hl : cnt = 0) : ∀ s, s < 9007199254740992 → (q s).isSome = true → s ∈ S := by
  obtain ⟨D, left, a1, -, -, a4, -⟩ := h
  rcases a1.next keyed3 0 with ⟨_, b2, _⟩ | ⟨key, v, kl, y, w', cnt', _, _, _, _, _, _, c7, _⟩
  · intro s hs hf
    by_cases c : s ∈ S
    · exact c
    · have := (a4 s hs).2 ⟨hf, c⟩
      rw [b2] at this
      cases this
  · omega
/-- The next one: none is left, or one comes. -/
theorem Rq.next (h : Rq w gm r n q S cnt) (ty : TypeId) :
    (cnt = 0 ∧ (Instr.next (.pointer (some ⟨r, 0, none⟩)) false ty).run Tryz.prog w = .ok (.tuple #[.bool false]) w) ∨
    ∃ (s g : Nat) (w' : World) (cnt' : Nat), s < 9007199254740992 ∧ q s = some g ∧ s ∉ S ∧ (Instr.next (.pointer (some ⟨r, 0, none⟩)) false ty).run Tryz.prog w = .ok (.tuple #[.bool true, .int .i64 (s : Int), .pointer (some ⟨g, 0, none⟩)]) w' ∧ Rq w' gm r n q (S ++ [s]) cnt' ∧ cnt' < cnt ∧ w.grownBy w' (some r) ∧ w'.heap.size = w.heap.size ∧ (Instr.entry (.pointer (some ⟨r, 0, none⟩))).run Tryz.prog w' = .ok (.tuple #[.int .i64 (s : Int), .pointer (some ⟨g, 0, none⟩)]) w' := by
  obtain ⟨D, left, a1, a2, a3, a4, a5, a6⟩ := h
  rcases a1.next keyed3 ty with ⟨b1, b2, b3⟩ | ⟨key, v, kl, y, w', cnt', c1, c2, c3, c4, c5, c6, c7, c8, c9, c10⟩
  · exact .inl ⟨b1, b3⟩
  · obtain ⟨x, rfl, rfl, -⟩ := Maps.keyOf_int_inv Tryz.underlying3 c1
    obtain ⟨s, hs, e⟩ := a5 _ c2
    simp only [Lit.int.injEq, true_and] at e
    subst e
    have h1 := (a4 s hs).1 c2
    obtain ⟨g, hg⟩ := Option.isSome_iff_exists.1 h1.1
    have hy := c4 .nil
    rw [a6 s hs g hg] at hy
    obtain ⟨y1, y2⟩ := y
    dsimp only at hy
    subst hy
    obtain rfl := ptrElem_inv c3
    refine .inr ⟨s, g, w', cnt', hs, hg, h1.2, c5, ⟨D, _, c6, ?_, fun e he => ?_, fun e he => ?_, fun kx hkx => ?_, a6⟩, c7, c8, c9, c10⟩
    · rw [List.nodup_append]
      refine ⟨a2, by simp, fun x hx y hy e => ?_⟩
      simp only [List.mem_singleton] at hy
      subst e
      exact h1.2 (hy ▸ hx)
    · rcases List.mem_append.1 he with he | he
      · exact a3 e he
      · rw [List.mem_singleton.1 he]
        exact ⟨hs, h1.1⟩
    · have hk : ((Lit.int .i64 (e : Int)).sameKey (.int .i64 (s : Int)) = true) ↔ e = s := by
        rw [WideAt.sameKey_iff (keyed3.key c1)]
        simp only [Lit.int.injEq, true_and]
        omega
      have h4 := a4 e he
      simp only [Bool.and_eq_true, Bool.not_eq_true', List.mem_append, List.mem_singleton, not_or]
      rw [← Bool.not_eq_true, hk, h4]
      exact ⟨fun h => ⟨h.1.1, h.1.2, h.2⟩, fun h => ⟨⟨h.1, h.2.1⟩, h.2.2⟩⟩
    · simp only [Bool.and_eq_true] at hkx
      exact a5 kx hkx.1
end
/-! ### A map from numbers to numbers -/
def Mi (w : World) (gm n : Nat) (q : Nat → Option Nat) : Prop :=
  ∃ D : DataW Unit, w.ownsMap Tryz.prog 3 (plainElem Tryz.prog 3) gm n D ∧ (∀ s : Nat, s < 9007199254740992 → Maps.has D (.int .i64 (s : Int)) = (q s).isSome ∧ ∀ i, q s = some i → D.atKey (.int .i64 (s : Int)) (.lit (.int .i64 0)) = .lit (.int .i64 (i : Int))) ∧ ∀ kl, Maps.has D kl = true → ∃ s : Nat, s < 9007199254740992 ∧ kl = .int .i64 (s : Int)
section
variable {w w' : World} {gm n : Nat} {q : Nat → Option Nat}
theorem Mi.made (w : World) : Mi (w.alloc (.map #[] 0)) w.heap.size 0 (fun _ => none) :=
  ⟨.map [], World.ownsMap_made w _ _ _, fun _ _ => ⟨rfl, fun _ h => by cases h⟩, fun kl h => by
    have e : Maps.has (H := Unit) (.map []) kl = false := rfl
    rw [e] at h
    cases h⟩
theorem Mi.same (h : Mi w gm n q) (hs : w'.heap[gm]? = w.heap[gm]?) : Mi w' gm n q := by
  obtain ⟨D, ⟨es, ck, h1, h2⟩, h3⟩ := h
  exact ⟨D, ⟨es, ck, hs.trans h1, h2⟩, h3⟩
theorem Mi.kept {row : Option Nat} (h : Mi w gm n q) (hg : w.grownBy w' row) (h1 : row ≠ some gm) : Mi w' gm n q := by
  have hl : gm < w.heap.size := by
    obtain ⟨D, h1, -⟩ := h
    exact h1.lt
  exact h.same (((Mv.refl w (fun k => row = some k)).grown hg (fun k _ e => e)).2.2.2.2 gm hl h1)
theorem Mi.lt (h : Mi w gm n q) : gm < w.heap.size := by
  obtain ⟨D, h1, -⟩ := h
  exact h1.lt
end
/-! ### Shapes -/
def Sh (w : World) (gt M : Nat) (q : Nat → Option Nat) (T : Nat → Ts) (W : World) (S : List Nat) (cnt : Nat) : Prop :=
  Rq W gt (w.heap.size + 1) M q S cnt ∧ Mi W w.heap.size S.length (fun s => if s ∈ S then some (T s).1.length else none) ∧ Below w.heap.size w W
section
variable {w w' : World} {own : Nat → Nat} {gw gp gm gt M M' : Nat} {vk : Value} {ks : List Kind} {gs fr gs' fr' : List Nat} {f f' : Int × Int → Option Nat} {q q' : Nat → Option Nat} {T T' : Nat → Ts} {S : List Nat} {cnt : Nat} {W : World}
theorem Sh.short (h : Sh w gt M q T W S cnt) (hw : Wi ks f q T) : S.length ≤ 8192 := by
  obtain ⟨⟨D, left, -, a2, a3, -⟩, -⟩ := h
  refine nodup_len 8192 S a2 (fun s hs => ?_)
  obtain ⟨g, hg⟩ := Option.isSome_iff_exists.1 (a3 s hs).2
  exact (hw.2 s g hg).1.1
theorem Sh.fin (h : Sh w gt M q T W S 0) (hw : Wi ks f q T) : (∃ n, n ≤ 8192 ∧ Mi W w.heap.size n (fun s => (q s).map fun _ => (T s).1.length)) ∧ Below w.heap.size w W := by
  have hl := h.short hw
  obtain ⟨h1, h2, h3⟩ := h
  refine ⟨⟨_, hl, ?_⟩, h3⟩
  have e : (fun s => if s ∈ S then some (T s).1.length else none) = (fun s => (q s).map fun _ => (T s).1.length) := by
    funext s
    cases hq : q s with
    | none =>
      have : s ∉ S := fun hs => by
        obtain ⟨D, left, -, -, a3, -⟩ := h1
        have := (a3 s hs).2
        rw [hq] at this
        cases this
      rw [if_neg this]
      rfl
    | some g =>
      have := (hw.2 s g hq).1.1
      rw [if_pos (h1.done rfl s (by omega) (by rw [hq]; rfl))]
      rfl
  rw [← e]
  exact h2
end
end Go.Proofs.YtfbhoemfabgjpaaGreat

/-
  slices.Clone of entities, maps.Clone.
-/
namespace Go.Proofs.YtfbhoemfabgjpaaGreat
open Go.RowKit Go.Maps
set_option maxRecDepth 1000000
theorem ez_one : ∀ l : List (Int × Int), ∀ u ∈ ez l, u.oneCell' = true
  | [], _, h => by cases h
  | p :: t, v, h => by
    simp only [ez, List.mem_cons] at h
    rcases h with rfl | rfl | h
    · rfl
    · rfl
    · exact ez_one t v h
set_option maxHeartbeats 1000000 in
theorem clone_ents (v : Value) (l : List (Int × Int)) (w : World) (h : w.ownsRow 0 34 2 v l.length (ez l)) (hn : l.length ≤ 1000000) :
    Calls Tryz.prog 43 #[v] w fun e w' => ∃ v', e = .returned v' ∧ w'.ownsRow w.heap.size 34 2 v' l.length (ez l) ∧ Below w.heap.size w w' := by
  obtain ⟨i0, hi, hz0, hz1, hz2⟩ := info_parts info32
  have q72 : ∀ (w : World) (a : Option Addr) (n c n' c' : Nat), (binOp .eql 41 (.slice a n c) (.slice none n' c')).run Tryz.prog w = .ok (.bool a.isNone) w := fun w a n c n' c' => Lib.run_eql_slice_nil w _ _ a n c n' c' Tryz.underlying41
  rcases h.2 with ⟨rfl, hl⟩ | ⟨g, cap, cur, rfl, -, hg, h1, h2, hcs, htake⟩
  · obtain rfl : l = [] := List.eq_nil_of_length_eq_zero (by omega)
    clear h hl
    go_enter Tryz.func43, Tryz.ntmps43
    go_wp2_with fail
    go_ret
    exact ⟨_, rfl, World.ownsRow_nil _ _ _ _, Below.refl _ _⟩
  · have H := hide h
    clear h hg hcs htake
    go_enter Tryz.func43, Tryz.ntmps43
    go_wp2_with (at_builtin; refine wpList_append_own_at _ rfl _ _ 41 rfl w.heap.size 34 i0 (.agg #[.int .i64 0, .int .i64 0]) 2 16 Tryz.underlying41 hi hz0 hz1 hz2 rfl (by decide) _ 0 [] rfl (World.ownsRow_lit w #[] 0 (Nat.le_refl _) (Nat.zero_le _) rfl) ⟨g, 0, none⟩ l.length cap (ez l) rfl (by rw [ez_len]) ?c1 (ez_one l) (by unfold maxLen; omega) (by omega) (by simp) ?_)
    case c1 => exact (H.out.alloc _).cells rfl
    intro v' w' ho hg _ _
    obtain ⟨ao, c, rfl⟩ := own_len ho
    have HO := hide ho
    have HG := hide hg
    clear ho hg
    go_wp2_with fail
    go_ret
    refine ⟨_, rfl, ?_, (below_alloc w _).grown HG.out (by simp) (fun k e => ?_)⟩
    · have := HO.out
      simpa using this
    · simp [Value.ownBlock] at e
      omega
set_option maxHeartbeats 1000000 in
theorem clone_map (gm n : Nat) (f : Int × Int → Option Nat) (w : World) (h : Mp w gm n f) :
    Calls Tryz.prog 23 #[.map (some gm)] w fun e w' => ∃ g', e = .returned (.map (some g')) ∧ w.heap.size = g' ∧ Mp w' g' n f ∧ Below w.heap.size w w' := by
  obtain ⟨D, ⟨es, ck, hb, hr⟩, hD⟩ := h
  have hfin : Hid (Mp (w.alloc (.map es ck)) w.heap.size n f) := ⟨D, ⟨es, ck, heap_alloc_new w _, hr⟩, hD⟩
  have hq := fun w => run_eql_map_nil_sl (P := Tryz.prog) w 61 _ _ (some gm) Tryz.underlying61
  clear hr hD
  go_enter Tryz.func23, Tryz.ntmps23
  go_wp2
  rw [run_callFunc_extern Tryz.func45 (by kernel_rfl) (by kernel_rfl) (by kernel_rfl) (e := Extern.MapsClone.clone) (by kernel_rfl), run_maps_clone_sl w 61 hb]
  simp only [Result.andThen]
  rw [Oper.upon_value]
  go_wp2
  rw [run_typeAssert_map_sl _ 61 _ _ _ _ Tryz.underlying61]
  simp only [Result.andThen]
  rw [Oper.upon_value]
  go_wp2
  go_ret
  exact ⟨_, rfl, rfl, hfin.out, below_alloc w _⟩
end Go.Proofs.YtfbhoemfabgjpaaGreat

/-
  Clone.
-/
namespace Go.Proofs.YtfbhoemfabgjpaaGreat
open Go.RowKit
set_option maxRecDepth 1000000
/-- Columns that are copied one by one. -/
def Tcm (B : Nat) (W : World) (ko : Nat) (lab : Nat → Nat) (done : List Value) (cols : List (List Int)) : Prop :=
  W.ownsRow B 35 1 (.slice (some ⟨ko, 0, none⟩) cols.length cols.length) cols.length (done ++ List.replicate (cols.length - done.length) (.slice none 0 0)) ∧
  (∀ i (hi : i < done.length) (hi2 : i < cols.length), W.ownsRow B 2 1 done[i] cols[i].length (zc cols[i])) ∧ lab ko = 3 ∧ ∀ i (hi : i < done.length) k, done[i].ownBlock = some k → lab k = 4 + i
section
variable {B ko : Nat} {W W' : World} {lab : Nat → Nat} {done : List Value} {cols : List (List Int)} {v : Value}
theorem Tcm.start (h : W.ownsRow B 35 1 (.slice (some ⟨ko, 0, none⟩) cols.length cols.length) cols.length (List.replicate cols.length (.slice none 0 0))) : Tcm B W ko (fun _ => 3) [] cols :=
  ⟨by simpa using h, fun i hi => by simp at hi, rfl, fun i hi => by simp at hi⟩
theorem Tcm.later (h : Tcm B W ko lab done cols) (hb : Below W.heap.size W W') : Tcm B W' ko lab done cols :=
  ⟨own_later h.1 hb, fun i hi hi2 => own_later (h.2.1 i hi hi2) hb, h.2.2⟩
theorem Tcm.step (h : Tcm B W ko lab done cols) (hB : B ≤ W.heap.size) (hj : done.length < cols.length) (hv : W'.ownsRow W.heap.size 2 1 v cols[done.length].length (zc cols[done.length])) (hb : Below W.heap.size W W') :
    (W'.cell? ⟨ko, done.length, none⟩ = some (.slice none 0 0) ∧ W'.frozen? ⟨ko, done.length, none⟩ = false) ∧ Tcm B (W'.setCell ⟨ko, done.length, none⟩ v) ko (ext lab W.heap.size (4 + done.length)) (done ++ [v]) cols ∧ Below B W (W'.setCell ⟨ko, done.length, none⟩ v) := by
  obtain ⟨h1, h2, h3, h4⟩ := h
  have hk := h1.lt ko rfl
  have h1' := own_later h1 hb
  have hm : Mv W' (W'.setCell ⟨ko, done.length, none⟩ v) (fun k => k = ko) := Mv.set (S := fun k => k = ko) (Mv.refl _ _) rfl _ _
  refine ⟨⟨?_, h1'.frozenAt _⟩, ⟨?_, fun i hi hi2 => ?_, ?_, fun i hi k e => ?_⟩, (hb.mono hB).trans (hm.below (Nat.le_trans hB hb.size) (fun k e => by omega))⟩
  · rw [h1'.cellAt _ (by omega), List.getElem?_append_right (Nat.le_refl _), Nat.sub_self, List.getElem?_replicate, if_pos (by omega)]
  · have := (h1'.stored done.length v).1
    have e : (done ++ List.replicate (cols.length - done.length) (Value.slice none 0 0)).set done.length v = (done ++ [v]) ++ List.replicate (cols.length - (done ++ [v]).length) (Value.slice none 0 0) := by
      obtain ⟨m, hm⟩ : ∃ m, cols.length - done.length = m + 1 := ⟨cols.length - done.length - 1, by omega⟩
      have hm' : cols.length - (done ++ [v]).length = m := by simp; omega
      rw [hm, hm', List.replicate_succ, List.set_append_right _ _ (Nat.le_refl _)]
      simp
    rw [e] at this
    exact this
  · by_cases e : i < done.length
    · rw [List.getElem_append_left e]
      have := own_later (h2 i e hi2) hb
      refine hm.own this (fun k e1 e2 => ?_)
      have := h4 i e k e1
      subst e2
      omega
    · have : i = done.length := by simp at hi; omega
      subst this
      simp only [List.getElem_concat_length]
      exact own_lower (hm.own hv (fun k e1 e2 => by have := (hv.lt k e1).1; omega)) hB
  · rw [ext_old hk.2]; exact h3
  · by_cases e0 : i < done.length
    · rw [List.getElem_append_left e0] at e
      rw [ext_old ((h2 i e0 (by omega)).lt k e).2]
      exact h4 i e0 k e
    · have : i = done.length := by simp at hi; omega
      subst this
      simp only [List.getElem_concat_length] at e
      exact ext_new (hv.lt k e).1
theorem Tcm.finish {W1 W2 : World} {g' n : Nat} {rows : List (Int × Int)} {f : Int × Int → Option Nat} (h : Tcm B W ko lab done cols) (_hB : B ≤ W.heap.size) (hd : done.length = cols.length) (hv : W1.ownsRow W.heap.size 34 2 v rows.length (ez rows)) (hb : Below W.heap.size W W1) (hp : Mp W2 g' n f) (hg : W1.heap.size ≤ g') (hb2 : Below W1.heap.size W1 W2)
    (hix : Ix rows f) (hcl : ∀ c ∈ cols, c.length = rows.length) (hib : ∀ e ∈ rows, InB e) (hr : rows.length ≤ 200) (hc : cols.length ≤ 48) :
    Tb (W2.alloc (.cells #[v, .map (some g'), .slice (some ⟨ko, 0, none⟩) cols.length cols.length] 108)) (fun k => B ≤ k) W2.heap.size n rows cols ∧ Below W.heap.size W (W2.alloc (.cells #[v, .map (some g'), .slice (some ⟨ko, 0, none⟩) cols.length cols.length] 108)) := by
  obtain ⟨h1, h2, h3, h4⟩ := h
  have hk := h1.lt ko rfl
  have s1 := hb.size
  have s2 := hb2.size
  have sp := hp.lt
  have ha := below_alloc W2 (.cells #[v, .map (some g'), .slice (some ⟨ko, 0, none⟩) cols.length cols.length] 108)
  have hb3 := below_on hb2 ha
  have hb4 := below_on hb hb3
  rw [hd] at h1
  simp only [Nat.sub_self, List.replicate_zero, List.append_nil] at h1
  refine ⟨⟨fun k => if k < W.heap.size then lab k else if k < W1.heap.size then 1 else if k < W2.heap.size then 2 else 0, v, g', _, done, f, ⟨heap_alloc_new W2 _, own_lower (own_later hv hb3) (Nat.zero_le _), hp.same (ha.block _ sp), ?_, hd, fun j hj hj2 => own_lower (own_later (h2 j hj hj2) hb4) (Nat.zero_le _), ?_, fun k e => ?_, ?_, fun k e => ?_, fun j hj k e => ?_⟩, hix, hcl, ⟨by omega, fun k e => ?_, by omega, fun k e => ?_, fun v' hv' k e => ?_⟩, hib, hr, hc⟩, hb4⟩
  · have := own_lower (own_later h1 hb4) (Nat.zero_le _)
    rw [hd]
    exact this
  · dsimp only
    rw [if_neg (by omega), if_neg (by omega), if_neg (by omega)]
  · have := hv.lt k e
    dsimp only
    rw [if_neg (by omega), if_pos (by omega)]
  · dsimp only
    rw [if_neg (by omega), if_neg (by omega), if_pos (by omega)]
  · simp only [Value.ownBlock, Option.some.injEq] at e
    subst e
    dsimp only
    rw [if_pos hk.2]
    exact h3
  · have := ((h2 j hj (by omega)).lt k e).2
    dsimp only
    rw [if_pos this]
    exact h4 j hj k e
  · have := (hv.lt k e).1
    omega
  · simp only [Value.ownBlock, Option.some.injEq] at e
    subst e
    exact hk.1
  · obtain ⟨j, hj, rfl⟩ := List.getElem_of_mem hv'
    exact ((h2 j hj (by omega)).lt k e).1
end
set_option maxHeartbeats 2000000 in
set_option maxRecDepth 100000 in
theorem cloned_any {w : World} {S : Nat → Prop} {g n : Nat} {rows : List (Int × Int)} {cols : List (List Int)} (h : Tb w S g n rows cols) : Calls Tryz.prog 21 #[.pointer (some ⟨g, 0, none⟩)] w fun e w' => ∃ g', e = .returned (.pointer (some ⟨g', 0, none⟩)) ∧ Tb w' (fun k => w.heap.size ≤ k) g' n rows cols ∧ Below w.heap.size w w' := by
  obtain ⟨lab, vr, gm, vc, cs, f, hm, hix, hcl, -, hib, hr2, hc48⟩ := h
  have HM := hide hm
  have HX := hide (And.intro hix (And.intro hcl hib))
  have hcs := hm.2.2.2.2.1
  obtain ⟨i0, hi0, hz0, hz1, hz2⟩ := info_parts info27
  obtain ⟨ar, cr, rfl⟩ := own_len hm.2.1
  obtain ⟨ac, cc, rfl⟩ := own_len hm.2.2.2.1
  have CC : Hid (∀ W, Below w.heap.size w W → W.cell? ⟨g, 0, none⟩ = some (.slice ar rows.length cr) ∧ W.cell? ⟨g, 1, none⟩ = some (.map (some gm)) ∧ W.cell? ⟨g, 2, none⟩ = some (.slice ac cs.length cc)) := fun W hb => (HM.out.later hb).cell
  clear hm hcl hix hib
  obtain ⟨c0, c1, c2⟩ := CC.out _ (Below.refl _ _)
  go_enter Tryz.func21, Tryz.ntmps21
  go_wp2_with (at_make; refine wpList_make_full _ rfl _ _ 106 rfl w.heap.size 35 i0 (.slice none 0 0) 1 Tryz.underlying106 hi0 hz0 hz1 .i64 .i64 _ _ cs.length rfl rfl ?c1 ?c2 ?c3 ?c4 ?c5 ?_)
  case c1 => omega
  case c2 => omega
  case c3 => rw [hz2]; omega
  case c4 => unfold maxLen; omega
  case c5 => simp
  intro w1 hown hgrow
  rw [toList_madeCells_one] at hown
  clear c0 c1 c2
  have B1 : Below w.heap.size w w1 := (Below.refl _ _).grown hgrow (Nat.le_refl _) (by intro k hk; cases hk)
  obtain ⟨ko, hko⟩ : ∃ k, k = w.heap.size := ⟨_, rfl⟩
  rw [← hko]
  have HO : Hid (Tcm w.heap.size w1 ko (fun _ => 3) [] cols) := by
    refine Tcm.start ?_
    rw [hko]
    exact hown
  have HB1 := hide B1
  obtain ⟨d0, d1, d2⟩ := CC.out w1 B1
  clear hown hgrow B1 hko
  go_upto_block 0 with fail
  clear d0 d1 d2
  go_wp2_with fail
  go_loopw [17] (fun v17 W => ∃ (lb : Nat → Nat) (done : List Value) (j : Nat), j ≤ cols.length ∧ Hid (done.length = j) ∧ v17 = .int .i64 (j : Int) ∧ Hid (Tcm w.heap.size W ko lb done cols) ∧ Hid (Below w.heap.size w W)) (fun v17 _ => cols.length - (intOf v17).toNat)
  case atStart => exact ⟨_, [], 0, Nat.zero_le _, rfl, rfl, HO, HB1⟩
  case round =>
    obtain ⟨lb, done, j, hjl, hdj, rfl, HR, HB⟩ := hrel
    by_cases hj : j < cols.length
    · have t1 : (j : Int) < (cols.length : Int) := by omega
      have hmw := HM.out.later HB.out
      obtain ⟨gc, cc', ec, -, -⟩ := own_form hmw.2.2.2.1 (by omega)
      simp only [Value.slice.injEq] at ec
      obtain ⟨rfl, -, rfl⟩ := ec
      have e1 := own_slices hmw.2.2.2.1 j (by omega)
      have hrow := hmw.2.2.2.2.2.1 j (by omega) hj
      have hlen : cols[j].length = rows.length := HX.out.2.1 _ (List.getElem_mem hj)
      have J : Hid (Calls Tryz.prog 33 #[cs[j]] wr fun e w' => ∃ v', e = .returned v' ∧ Hid (w'.ownsRow wr.heap.size 2 1 v' cols[j].length (zc cols[j]) ∧ Below wr.heap.size wr w')) :=
        (clone_any _ _ _ wr hrow (by omega)).mono (fun e w' ⟨v', h1, h2, h3⟩ => ⟨v', h1, h2, h3⟩)
      generalize cs[j]'(by omega) = vj at *
      clear hmw hrow
      go_wp2_with fail
      refine J.out.mono ?_
      rintro e w2 ⟨v', rfl, HV⟩
      have hd := hdj.out
      subst hd
      obtain ⟨⟨f1, f2⟩, HC2, HB2⟩ := HR.out.step HB.out.size hj HV.out.1 HV.out.2
      have HC2 := hide HC2
      have HB2 := hide HB2
      obtain ⟨av, cv, rfl⟩ := own_len HV.out.1
      clear hlen
      go_wp2_with fail
      go_roundw
      case rel => exact ⟨_, done ++ [_], done.length + 1, by omega, hide (by simp), by go_num, HC2, HB.out.trans HB2.out⟩
      case measure => simp [intOf]; omega
    · obtain rfl : j = cols.length := by omega
      have t1 : ¬ (cols.length : Int) < (cols.length : Int) := by omega
      have hbd : Hid (Below w.heap.size w wr.drew) := below_on HB.out (below_drew wr)
      have J28 : Hid (∀ W, Below w.heap.size w W → Calls Tryz.prog 43 #[.slice ar rows.length cr] W fun e w' => ∃ v', e = .returned v' ∧ Hid (w'.ownsRow W.heap.size 34 2 v' rows.length (ez rows) ∧ Below W.heap.size W w' ∧ Below w.heap.size w w') ∧ w'.cell? ⟨g, 0, none⟩ = some (.slice ar rows.length cr) ∧ w'.cell? ⟨g, 1, none⟩ = some (.map (some gm))) := fun W hW =>
        (clone_ents _ rows W (own_later HM.out.2.1 hW) (by omega)).mono (fun e w' ⟨v', h1, h2, h3⟩ => ⟨v', h1, ⟨h2, h3, below_on hW h3⟩, (CC.out _ (below_on hW h3)).1, (CC.out _ (below_on hW h3)).2.1⟩)
      have J29 : Hid (∀ W, Below w.heap.size w W → Calls Tryz.prog 23 #[.map (some gm)] W fun e w' => ∃ g', e = .returned (.map (some g')) ∧ Hid (W.heap.size ≤ g' ∧ Mp w' g' n f ∧ Below W.heap.size W w') ∧ w'.cell? ⟨g, 0, none⟩ = some (.slice ar rows.length cr) ∧ w'.cell? ⟨g, 1, none⟩ = some (.map (some gm))) := fun W hW =>
        (clone_map gm n f W (HM.out.later hW).2.2.1).mono (fun e w' ⟨g', h1, h2, h3, h4⟩ => ⟨g', h1, ⟨Nat.le_of_eq h2, h3, h4⟩, (CC.out _ (below_on hW h4)).1, (CC.out _ (below_on hW h4)).2.1⟩)
      obtain ⟨d0, d1, -⟩ := CC.out _ hbd.out
      go_wp2_with fail
      go_region_held3 (fun W => W.cell? ⟨g, 0, none⟩ = some (.slice ar rows.length cr) ∧ W.cell? ⟨g, 1, none⟩ = some (.map (some gm))) (go_keep) (first | (go_at_call 23; refine (J29.out _ HH.out.2.2).mono ?_; rintro e w3 ⟨g3, rfl, HH3, y0, y1⟩) | (go_at_call 43; refine (J28.out _ hbd.out).mono ?_; rintro e w2 ⟨v2, rfl, HH, x0, x1⟩; obtain ⟨a2, k2, rfl⟩ := own_len HH.out.1))
      all_goals
        go_wp2_with fail
        go_ret
        have hfin := (HR.out.later (below_drew wr)).finish hbd.out.size hdj.out HH.out.1 HH.out.2.1 HH3.out.2.1 HH3.out.1 HH3.out.2.2 HX.out.1 HX.out.2.1 HX.out.2.2 hr2 hc48
        exact ⟨_, rfl, hfin.1, below_on hbd.out hfin.2⟩
section
variable {B : Nat} {N : Nat → Prop} {W : World} {g n : Nat} {rows : List (Int × Int)} {cols : List (List Int)}
/-- A table and its clone: two that are apart. -/
theorem tf_clone (h : Tf B N W g n rows cols) : Calls Tryz.prog 21 #[.pointer (some ⟨g, 0, none⟩)] W fun e w' => ∃ g', e = .returned (.pointer (some ⟨g', 0, none⟩)) ∧ (∃ S, Tb w' S g n rows cols ∧ (∀ k, S k → B ≤ k ∧ k < W.heap.size ∧ ¬ N k)) ∧ Tb w' (fun k => W.heap.size ≤ k) g' n rows cols ∧ Below W.heap.size W w' := by
  obtain ⟨S, h1, h2, h3, h4⟩ := h
  refine (cloned_any h1).mono ?_
  rintro e w' ⟨g', rfl, t1, t2⟩
  exact ⟨g', rfl, ⟨S, h1.later t2, h2⟩, t1, t2⟩
end
end Go.Proofs.YtfbhoemfabgjpaaGreat

/-
  Ids: slices.Clone of numbers.
-/
namespace Go.Proofs.YtfbhoemfabgjpaaGreat
open Go.RowKit
set_option maxRecDepth 100000
set_option maxHeartbeats 1000000 in
theorem i_clone_any (v : Value) (n : Nat) (l : List Nat) (w : World) (h : w.ownsRow 0 3 1 v n (ic l)) (hn : n ≤ 1000000) :
    Calls Tryz.prog 44 #[v] w fun e w' => ∃ v', e = .returned v' ∧ w'.ownsRow w.heap.size 3 1 v' n (ic l) ∧ Below w.heap.size w w' := by
  obtain ⟨i0, hi, hz0, hz1, hz2⟩ := info_parts info3
  have hl : n = l.length := by have := h.1; rw [ic_len] at this; omega
  have q33 : ∀ (w : World) (a : Option Addr) (n c n' c' : Nat), (binOp .eql 79 (.slice a n c) (.slice none n' c')).run Tryz.prog w = .ok (.bool a.isNone) w := fun w a n c n' c' => Lib.run_eql_slice_nil w _ _ a n c n' c' Tryz.underlying79
  subst hl
  rcases h.2 with ⟨rfl, hl⟩ | ⟨g, cap, cur, rfl, -, hg, h1, h2, hcs, htake⟩
  · obtain rfl : l = [] := List.eq_nil_of_length_eq_zero (by omega)
    clear h hl
    go_enter Tryz.func44, Tryz.ntmps44
    go_wp2_with fail
    go_ret
    exact ⟨_, rfl, World.ownsRow_nil _ _ _ _, Below.refl _ _⟩
  · have H := hide h
    clear h hg hcs htake
    go_enter Tryz.func44, Tryz.ntmps44
    go_wp2_with (at_builtin; refine wpList_append_own_at _ rfl _ _ 79 rfl w.heap.size 3 i0 (.int .i64 0) 1 8 Tryz.underlying79 hi hz0 hz1 hz2 rfl (by decide) _ 0 [] rfl (World.ownsRow_lit w #[] 0 (Nat.le_refl _) (Nat.zero_le _) rfl) ⟨g, 0, none⟩ l.length cap (ic l) rfl (by rw [ic_len]; omega) ?c1 (ic_one l) (by unfold maxLen; omega) (by omega) (by simp) ?_)
    case c1 => exact (H.out.alloc _).cells rfl
    intro v' w' ho hg _ _
    obtain ⟨ao, c, rfl⟩ := own_len ho
    have HO := hide ho
    have HG := hide hg
    clear ho hg
    go_wp2_with fail
    go_ret
    refine ⟨_, rfl, ?_, (below_alloc w _).grown HG.out (by simp) (fun k e => ?_)⟩
    · have := HO.out
      simpa using this
    · simp [Value.ownBlock] at e
      omega

end Go.Proofs.YtfbhoemfabgjpaaGreat
