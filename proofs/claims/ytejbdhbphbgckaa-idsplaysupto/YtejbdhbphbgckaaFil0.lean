/-
  Rows that their owner writes over and grows: what stays.
-/
import Derived.Maps.AppendAt
import Derived.Laws.OwnMore
import Derived.Test.YtejbdhbphbgckaaLooks
namespace Go.Proofs.Ytejbdhbphbgckaa
open Go.RowKit
theorem own_prefix {w : World} {B e s g n n2 c : Nat} {ys : List Value} (h : w.ownsRow B e s (.slice (some ⟨g, 0, none⟩) n2 c) n2 ys) (hn : n ≤ n2) : w.ownsRow B e s (.slice (some ⟨g, 0, none⟩) n c) n (ys.take (n * s)) := by
  have hm : n * s ≤ n2 * s := Nat.mul_le_mul_right _ hn
  have hl := h.1
  rcases h.2 with ⟨e, -⟩ | ⟨g', cap, cur, e, hb, hg, h1, h2, h3, h4⟩
  · cases e
  · simp only [Value.slice.injEq, Option.some.injEq, Addr.mk.injEq, and_true, true_and] at e
    obtain ⟨rfl, rfl⟩ := e
    refine ⟨by rw [List.length_take, hl]; omega, .inr ⟨g, c, cur, rfl, hb, hg, by omega, h2, h3, ?_⟩⟩
    rw [← h4, List.take_take, Nat.min_eq_left hm]
section
variable {P : Program} {w : World}
theorem run_append_stay (base : Nat) (t ty e : TypeId) (i : TypeInfo) (z : Value) (size bytes : Nat) (ht : P.underlying t = some (.slice e)) (hi : P.info? e = some i) (hz : i.zero = some z)
    (hsize : i.size = size) (hby : i.bytes = bytes) (hzs : z.cells.size = size) (hsz : 0 < size)
    (v : Value) (n : Nat) (xs : List Value) (hown : w.ownsRow base e size v n xs)
    (a : Addr) (m c : Nat) (news : List Value) (hl : news.length = m * size) (hnews : ∀ j u, news[j]? = some u → w.cell? (a.add j) = some u) (h1 : ∀ u ∈ news, u.oneCell' = true)
    (h63 : n + m ≤ maxLen) (hbytes : (n + m) * bytes ≤ 140737488355328) (hbase : base ≤ w.heap.size) :
    ∃ v' w', (Builtin.append_ #[t, t] ty #[v, .slice (some a) m c]).run P w = .ok v' w' ∧ w'.ownsRow base e size v' (n + m) (xs ++ news) ∧ w.grownBy w' v.ownBlock ∧
      (v'.ownBlock = v.ownBlock ∨ v'.ownBlock = some w.heap.size) ∧ w'.ownsRow base e size v n xs := by
  obtain ⟨v', w', hr, h2, h3, _, h5⟩ := run_append_own_at (P := P) w base t ty e i z size bytes ht hi hz hsize hby hzs hsz v n xs hown a m c news hl hnews h1 h63 hbytes hbase
  refine ⟨v', w', hr, h2, h3, h5, ?_⟩
  have hsmall : n + m ≤ 9223372036854775807 := by simp only [maxLen] at h63; omega
  subst hsize
  subst hby
  have hlx := hown.1
  rcases hown.2 with ⟨rfl, rfl⟩ | ⟨g, cap, cur, rfl, hbg, hg, hnc, hcm, hcs, htake⟩
  · exact ⟨hlx, .inl ⟨rfl, rfl⟩⟩
  · by_cases hroom : n + m ≤ cap
    · have hfit : n * i.size + news.length ≤ cur.size := by rw [hl, hcs, ← Nat.add_mul]; exact Nat.mul_le_mul_right _ hroom
      have hr2 := run_append_room (P := P) w t ty e i ht hi g n cap cur hg a m c news hl hnews h1 hroom hfit
      rw [hr] at hr2
      injection hr2 with hv hw
      subst hv
      have := own_prefix h2 (n := n) (by omega)
      rwa [List.take_append_of_le_length (by omega), List.take_of_length_le (by omega)] at this
    · have holds : ∀ j u, xs[j]? = some u → w.cell? ((⟨g, 0, none⟩ : Addr).add j) = some u := hown.cells (g := g) rfl
      have hr2 := run_append_grow (P := P) w t ty e i z ht hi hz ⟨g, 0, none⟩ n cap xs hown.1 holds a m c news hl hnews (by omega) (by omega) (growslice_fits (by omega) hbytes)
      rw [hr] at hr2
      injection hr2 with hv hw
      subst hw
      exact ⟨hlx, .inr ⟨g, cap, cur, rfl, hbg, (heap_alloc_old w.drew _ (Array.getElem?_eq_some_iff.1 hg).1).trans hg, hnc, hcm, hcs, htake⟩⟩
theorem wpList_append_stay {ops : Array Oper} {rest : List Oper} {o : Oper} {a : Act} {Q : Exit → Act → World → Prop} (hgd : o.guard = none) (s x : Operand) (t : TypeId)
    (ho : o.op = .call { callee := .builtin .append, args := #[s, x], argTypes := #[t, t] })
    (base : Nat) (e : TypeId) (i : TypeInfo) (z : Value) (size bytes : Nat) (ht : P.underlying t = some (.slice e)) (hi : P.info? e = some i) (hz : i.zero = some z)
    (hsize : i.size = size) (hby : i.bytes = bytes) (hzs : z.cells.size = size) (hsz : 0 < size)
    (v : Value) (n : Nat) (xs : List Value) (hs : a.eval s = v) (hown : w.ownsRow base e size v n xs)
    (ad : Addr) (m c : Nat) (news : List Value) (hx : a.eval x = .slice (some ad) m c) (hl : news.length = m * size) (hnews : ∀ j u, news[j]? = some u → w.cell? (ad.add j) = some u) (h1 : ∀ u ∈ news, u.oneCell' = true)
    (h63 : n + m ≤ maxLen) (hbytes : (n + m) * bytes ≤ 140737488355328) (hbase : base ≤ w.heap.size)
    (h : ∀ v' w', w'.ownsRow base e size v' (n + m) (xs ++ news) → w.grownBy w' v.ownBlock → (v'.ownBlock = v.ownBlock ∨ v'.ownBlock = some w.heap.size) → w'.ownsRow base e size v n xs → wpList P ops Q rest (a.put o.dst v') w') : wpList P ops Q (o :: rest) a w :=
  wpList_plain hgd fun _ hK => by
    obtain ⟨v', w', hr, h2, h3, h4, h5⟩ := run_append_stay (P := P) (w := w) base t o.type e i z size bytes ht hi hz hsize hby hzs hsz v n xs hown ad m c news hl hnews h1 h63 hbytes hbase
    unfold Oper.wp execOp
    simp only [ho, resolve, invoke, builtin, Sem.run_bind, Sem.run_pure, Result.andThen_ok, List.map_toArray, List.map_cons, List.map_nil, hs, hx, hr]
    exact hK _ _ (h v' w' h2 h3 h4 h5)
end
/-- A row of n places, of which the first k read m. -/
def Mo (e s : Nat) (w : World) (v : Value) (n : Nat) (m : Int) (k : Nat) : Prop :=
  ∃ xs, w.ownsRow 0 e s v n xs ∧ ∀ j, j < k * s → xs[j]? = some (.int .i64 m)
section
variable {e s n k : Nat} {w w' : World} {v u : Value} {m : Int}
theorem Mo.start {B : Nat} {xs : List Value} (h : w.ownsRow B e s v n xs) (m : Int) : Mo e s w v n m 0 := ⟨xs, own_lower h (Nat.zero_le _), fun j hj => by omega⟩
theorem Mo.frame {S : Nat → Prop} (h : Mo e s w v n m k) (hm : Mv w w' S) (h1 : ∀ q, v.ownBlock = some q → ¬ S q) : Mo e s w' v n m k := by
  obtain ⟨xs, h2, h3⟩ := h
  exact ⟨xs, hm.own h2 h1, h3⟩
theorem Mo.later (h : Mo e s w v n m k) (hb : Below w.heap.size w w') : Mo e s w' v n m k := h.frame (Mv.of_below hb (fun _ => False)) (fun _ _ e => e)
theorem Mo.lt (h : Mo e s w v n m k) : ∀ q, v.ownBlock = some q → q < w.heap.size := fun q e => by
  obtain ⟨xs, h2, h3⟩ := h
  exact (h2.lt q e).2
theorem Mo.form (h : Mo e s w v n m k) : ∃ ao c, v = .slice ao n c ∧ n ≤ c ∧ c ≤ maxLen ∧ (0 < n → ∃ g, ao = some ⟨g, 0, none⟩) := by
  obtain ⟨xs, h2, h3⟩ := h
  rcases h2.2 with ⟨rfl, rfl⟩ | ⟨g, cap, cur, rfl, hbg, hg, hnc, hcm, hcs, htake⟩
  · exact ⟨none, 0, rfl, Nat.le_refl _, Nat.zero_le _, fun e => absurd e (by omega)⟩
  · exact ⟨_, _, rfl, hnc, hcm, fun _ => ⟨g, rfl⟩⟩
theorem Mo.cell {g c j : Nat} (h : Mo e s w (.slice (some ⟨g, 0, none⟩) n c) n m k) (hk : k ≤ n) (hj : j < k * s) : w.cell? ⟨g, j, none⟩ = some (.int .i64 m) := by
  obtain ⟨xs, h2, h3⟩ := h
  have : k * s ≤ n * s := Nat.mul_le_mul_right _ hk
  rw [h2.cellAt j (by omega), h3 j hj]
theorem Mo.room {g c j : Nat} (h : Mo e s w (.slice (some ⟨g, 0, none⟩) n c) n m k) (hj : j < n * s) : (∃ u, w.cell? ⟨g, j, none⟩ = some u) ∧ w.frozen? ⟨g, j, none⟩ = false := by
  obtain ⟨xs, h2, h3⟩ := h
  refine ⟨⟨xs[j]'(by rw [h2.1]; exact hj), ?_⟩, ?_⟩
  · rw [h2.cellAt j hj]; exact List.getElem?_eq_getElem _
  · rcases h2.2 with ⟨e, -⟩ | ⟨g', cap, cur, e, hb, hg, -⟩
    · cases e
    · simp only [Value.slice.injEq, Option.some.injEq, Addr.mk.injEq, and_true, true_and] at e
      obtain ⟨rfl, rfl⟩ := e
      exact frozen_of_row w g j _ _ hg
theorem Mo.int_set {g c : Nat} (h : Mo 3 1 w (.slice (some ⟨g, 0, none⟩) n c) n m k) (hk : k < n) : Mo 3 1 (w.setCell ⟨g, k, none⟩ (.int .i64 m)) (.slice (some ⟨g, 0, none⟩) n c) n m (k + 1) := by
  obtain ⟨xs, h2, h3⟩ := h
  have hl := h2.1
  refine ⟨_, (h2.stored k _).1, fun j hj => ?_⟩
  rw [List.getElem?_set]
  by_cases e : k = j
  · subst e; rw [if_pos rfl, if_pos (by omega)]
  · rw [if_neg e]; exact h3 j (by omega)
theorem Mo.ent_set {g c : Nat} (h : Mo 41 2 w (.slice (some ⟨g, 0, none⟩) n c) n m k) (hk : k < n) : Mo 41 2 ((w.setCell ⟨g, k * 2, none⟩ (.int .i64 m)).setCell ⟨g, k * 2 + 1, none⟩ (.int .i64 m)) (.slice (some ⟨g, 0, none⟩) n c) n m (k + 1) := by
  obtain ⟨xs, h2, h3⟩ := h
  have hl := h2.1
  refine ⟨_, ((h2.stored (k * 2) _).1.stored (k * 2 + 1) _).1, fun j hj => ?_⟩
  rw [List.getElem?_set]
  by_cases e : k * 2 + 1 = j
  · subst e; rw [if_pos rfl, if_pos (by rw [List.length_set]; omega)]
  · rw [if_neg e, List.getElem?_set]
    by_cases e : k * 2 = j
    · subst e; rw [if_pos rfl, if_pos (by omega)]
    · rw [if_neg e]; exact h3 j (by omega)
theorem Mo.more {xs : List Value} (h : ∀ j, j < n * s → xs[j]? = some (Value.int .i64 m)) (hl : xs.length = n * s) (h2 : w.ownsRow 0 e s u (n + 1) (xs ++ List.replicate s (.int .i64 m))) : Mo e s w u (n + 1) m (n + 1) :=
  ⟨_, h2, fun j hj => by
    by_cases e : j < n * s
    · rw [List.getElem?_append_left (by omega)]; exact h j e
    · rw [Nat.add_mul] at hj
      rw [List.getElem?_append_right (by omega), List.getElem?_replicate, if_pos (by omega)]⟩
/-- The shorter one of two in one block. -/
theorem Mo.short {n2 : Nat} (hs : 0 < s) (h : Mo e s w v n m n) (hu : Mo e s w u n2 m n2) (hu' : Mo e s w' u n2 m n2) (hn : n ≤ n2) (hb : v.ownBlock = u.ownBlock) : Mo e s w' v n m n := by
  obtain ⟨xs, h2, h3⟩ := h
  obtain ⟨ys, k2, k3⟩ := hu
  obtain ⟨zs, l2, l3⟩ := hu'
  rcases h2.2 with ⟨rfl, rfl⟩ | ⟨g, cap, cur, rfl, hbg, hg, hnc, hcm, hcs, htake⟩
  · exact ⟨xs, ⟨h2.1, .inl ⟨rfl, rfl⟩⟩, h3⟩
  · rcases k2.2 with ⟨rfl, rfl⟩ | ⟨g', cap', cur', rfl, hbg', hg', hnc', hcm', hcs', htake'⟩
    · simp [Value.ownBlock] at hb
    · have : g = g' := by simpa [Value.ownBlock] using hb
      subst this
      rw [hg] at hg'
      simp only [Option.some.injEq, Obj.cells.injEq, and_true] at hg'
      subst hg'
      have : cap = cap' := Nat.eq_of_mul_eq_mul_right hs (hcs.symm.trans hcs')
      subst this
      refine ⟨_, own_prefix l2 hn, fun j hj => ?_⟩
      have : n * s ≤ n2 * s := Nat.mul_le_mul_right _ hn
      rw [List.getElem?_take, if_pos hj]
      exact l3 j (by omega)
theorem Mo.ia (h : Mo 3 1 w v n m n) : Ia w v m := by
  obtain ⟨ao, c, rfl, h1, h2, h3⟩ := h.form
  refine ⟨ao, n, c, rfl, h1, h2, fun j hj => ?_⟩
  obtain ⟨g, rfl⟩ := h3 (by omega)
  refine ⟨g, 0, rfl, ?_⟩
  rw [Nat.zero_add]
  exact h.cell (Nat.le_refl _) (by omega)
theorem Mo.ea (h : Mo 41 2 w v n m n) : Ea w v m := by
  obtain ⟨ao, c, rfl, h1, h2, h3⟩ := h.form
  refine ⟨ao, n, c, rfl, h1, h2, fun j hj => ?_⟩
  obtain ⟨g, rfl⟩ := h3 (by omega)
  refine ⟨g, 0, rfl, ?_⟩
  rw [Nat.zero_add]
  exact ⟨h.cell (Nat.le_refl _) (by omega), h.cell (Nat.le_refl _) (by omega)⟩
theorem Ia.nil (w : World) (m : Int) : Ia w (.slice none 0 0) m := ⟨none, 0, 0, rfl, Nat.le_refl _, Nat.zero_le _, fun j hj => by omega⟩
theorem Ea.nil (w : World) (m : Int) : Ea w (.slice none 0 0) m := ⟨none, 0, 0, rfl, Nat.le_refl _, Nat.zero_le _, fun j hj => by omega⟩
theorem Ia.frame {S : Nat → Prop} (h : Ia w v m) (hm : Mv w w' S) (h1 : ∀ q, v.ownBlock = some q → ¬ S q) : Ia w' v m := by
  obtain ⟨ao, n, c, rfl, h2, h3, h4⟩ := h
  refine ⟨ao, n, c, rfl, h2, h3, fun j hj => ?_⟩
  obtain ⟨g, o, rfl, hc⟩ := h4 j hj
  exact ⟨g, o, rfl, hm.cell hc (h1 g rfl)⟩
theorem Ea.frame {S : Nat → Prop} (h : Ea w v m) (hm : Mv w w' S) (h1 : ∀ q, v.ownBlock = some q → ¬ S q) : Ea w' v m := by
  obtain ⟨ao, n, c, rfl, h2, h3, h4⟩ := h
  refine ⟨ao, n, c, rfl, h2, h3, fun j hj => ?_⟩
  obtain ⟨g, o, rfl, hc, hd⟩ := h4 j hj
  exact ⟨g, o, rfl, hm.cell hc (h1 g rfl), hm.cell hd (h1 g rfl)⟩
end
end Go.Proofs.Ytejbdhbphbgckaa
