/-
  Rows that their owner writes over and grows; what the law holds grows.
-/
import Derived.Test.YtlnjphfkinajdaaBun
namespace Go.Proofs.Ytlnjphfkinajdaa
open Go.RowKit
section
variable {P : Program} {w : World}
theorem run_append_stay (base : Nat) (t ty e : TypeId) (i : TypeInfo) (z : Value) (size bytes : Nat) (ht : P.underlying t = some (.slice e)) (hi : P.info? e = some i) (hz : i.zero = some z)
    (hsize : i.size = size) (hby : i.bytes = bytes) (hzs : z.cells.size = size) (hsz : 0 < size)
    (v : Value) (n : Nat) (xs : List Value) (hown : w.ownsRow base e size v n xs)
    (a : Addr) (m c : Nat) (news : List Value) (hl : news.length = m * size) (hnews : ∀ j u, news[j]? = some u → w.cell? (a.add j) = some u) (h1 : ∀ u ∈ news, u.oneCell' = true)
    (h63 : n + m ≤ maxLen) (hbytes : (n + m) * bytes ≤ 140737488355328) (hbase : base ≤ w.heap.size) :
    ∃ v' w', (Builtin.append_ #[t, t] ty #[v, .slice (some a) m c]).run P w = .ok v' w' ∧ w'.ownsRow base e size v' (n + m) (xs ++ news) ∧ w.grownBy w' v.ownBlock ∧
      (v'.ownBlock = v.ownBlock ∨ v'.ownBlock = some w.heap.size) ∧ w'.ownsRow base e size v n xs := by
  obtain ⟨v', w', hr, h2, h3, _, h5⟩ := run_append_own_at (P := P) w base t ty e i z size bytes ht hi hz hsize hby hzs hsz v n xs hown a m c news hl hnews h1 h63 hbytes hbase
  refine ⟨v', w', hr, h2, h3, h5, ?_⟩
  have hsmall : n + m ≤ 9223372036854775807 := by simp only [maxLen] at h63; omega
  subst hsize
  subst hby
  have hlx := hown.1
  rcases hown.2 with ⟨rfl, rfl⟩ | ⟨g, cap, cur, rfl, hbg, hg, hnc, hcm, hcs, htake⟩
  · exact ⟨hlx, .inl ⟨rfl, rfl⟩⟩
  · by_cases hroom : n + m ≤ cap
    · have hfit : n * i.size + news.length ≤ cur.size := by rw [hl, hcs, ← Nat.add_mul]; exact Nat.mul_le_mul_right _ hroom
      have hr2 := run_append_room (P := P) w t ty e i ht hi g n cap cur hg a m c news hl hnews h1 hroom hfit
      rw [hr] at hr2
      injection hr2 with hv hw
      subst hv
      have := own_prefix h2 (n := n) (by omega)
      rwa [List.take_append_of_le_length (by omega), List.take_of_length_le (by omega)] at this
    · have holds : ∀ j u, xs[j]? = some u → w.cell? ((⟨g, 0, none⟩ : Addr).add j) = some u := hown.cells (g := g) rfl
      have hr2 := run_append_grow (P := P) w t ty e i z ht hi hz ⟨g, 0, none⟩ n cap xs hown.1 holds a m c news hl hnews (by omega) (by omega) (growslice_fits (by omega) hbytes)
      rw [hr] at hr2
      injection hr2 with hv hw
      subst hw
      exact ⟨hlx, .inr ⟨g, cap, cur, rfl, hbg, (heap_alloc_old w.drew _ (Array.getElem?_eq_some_iff.1 hg).1).trans hg, hnc, hcm, hcs, htake⟩⟩
theorem wpList_append_stay {ops : Array Oper} {rest : List Oper} {o : Oper} {a : Act} {Q : Exit → Act → World → Prop} (hgd : o.guard = none) (s x : Operand) (t : TypeId)
    (ho : o.op = .call { callee := .builtin .append, args := #[s, x], argTypes := #[t, t] })
    (base : Nat) (e : TypeId) (i : TypeInfo) (z : Value) (size bytes : Nat) (ht : P.underlying t = some (.slice e)) (hi : P.info? e = some i) (hz : i.zero = some z)
    (hsize : i.size = size) (hby : i.bytes = bytes) (hzs : z.cells.size = size) (hsz : 0 < size)
    (v : Value) (n : Nat) (xs : List Value) (hs : a.eval s = v) (hown : w.ownsRow base e size v n xs)
    (ad : Addr) (m c : Nat) (news : List Value) (hx : a.eval x = .slice (some ad) m c) (hl : news.length = m * size) (hnews : ∀ j u, news[j]? = some u → w.cell? (ad.add j) = some u) (h1 : ∀ u ∈ news, u.oneCell' = true)
    (h63 : n + m ≤ maxLen) (hbytes : (n + m) * bytes ≤ 140737488355328) (hbase : base ≤ w.heap.size)
    (h : ∀ v' w', w'.ownsRow base e size v' (n + m) (xs ++ news) → w.grownBy w' v.ownBlock → (v'.ownBlock = v.ownBlock ∨ v'.ownBlock = some w.heap.size) → w'.ownsRow base e size v n xs → wpList P ops Q rest (a.put o.dst v') w') : wpList P ops Q (o :: rest) a w :=
  wpList_plain hgd fun _ hK => by
    obtain ⟨v', w', hr, h2, h3, h4, h5⟩ := run_append_stay (P := P) (w := w) base t o.type e i z size bytes ht hi hz hsize hby hzs hsz v n xs hown ad m c news hl hnews h1 h63 hbytes hbase
    unfold Oper.wp execOp
    simp only [ho, resolve, invoke, builtin, Sem.run_bind, Sem.run_pure, Result.andThen_ok, List.map_toArray, List.map_cons, List.map_nil, hs, hx, hr]
    exact hK _ _ (h v' w' h2 h3 h4 h5)
end
/-- Of two rows in one block the shorter one reads as the longer one does. -/
theorem own_short {w w' : World} {v u : Value} {n m : Nat} {xs ys zs : List Value} (h : w.ownsRow 0 2 1 v n xs) (hu : w.ownsRow 0 2 1 u m ys) (hu' : w'.ownsRow 0 2 1 u m zs) (hn : n ≤ m) (hb : v.ownBlock = u.ownBlock) : w'.ownsRow 0 2 1 v n (zs.take n) := by
  rcases h.2 with ⟨rfl, rfl⟩ | ⟨g, cap, cur, rfl, hbg, hg, hnc, hcm, hcs, htake⟩
  · exact ⟨by simp, .inl ⟨rfl, rfl⟩⟩
  · rcases hu.2 with ⟨rfl, rfl⟩ | ⟨g', cap', cur', rfl, hbg', hg', hnc', hcm', hcs', htake'⟩
    · simp [Value.ownBlock] at hb
    · have : g = g' := by simpa [Value.ownBlock] using hb
      subst this
      rw [hg] at hg'
      simp only [Option.some.injEq, Obj.cells.injEq, and_true] at hg'
      subst hg'
      have : cap = cap' := Nat.eq_of_mul_eq_mul_right (by decide) (hcs.symm.trans hcs')
      subst this
      have := own_prefix hu' (n := n) hn
      rwa [Nat.mul_one] at this
section
variable {w W W' : World} {gw n : Nat} {vl vi vm v' : Value} {G : Nat → Nat × Nat} {L : List Held}
/-- What the law knows of itself, while it holds more: the lists, the marks. -/
def Wx (w : World) (gw : Nat) (vl vi vm : Value) (G : Nat → Nat × Nat) (n : Nat) (I : List Value) (Z : List Int) : Prop :=
  w.heap[gw]? = some (.cells #[vl, vi, vm] 29 (0, 0)) ∧ w.ownsRow 0 64 2 vl n (plz G n) ∧ w.ownsRow 0 27 1 vi I.length I ∧ w.ownsRow 0 2 1 vm Z.length (zc Z) ∧
  (vl.ownBlock ≠ some gw ∧ vi.ownBlock ≠ some gw ∧ vm.ownBlock ≠ some gw) ∧ Ap vl vi ∧ Ap vl vm ∧ Ap vi vm
variable {I : List Value} {Z : List Int} {T : Nat → Prop}
theorem Wx.frame (h : Wx w gw vl vi vm G n I Z) (hm : Mv w W T) (h0 : ¬ T gw) (h1 : ∀ k, vl.ownBlock = some k → ¬ T k) (h2 : ∀ k, vi.ownBlock = some k → ¬ T k) (h3 : ∀ k, vm.ownBlock = some k → ¬ T k) : Wx W gw vl vi vm G n I Z := by
  obtain ⟨a1, a2, a3, a4, a5⟩ := h
  exact ⟨hm.at a1 h0, hm.own a2 h1, hm.own a3 h2, hm.own a4 h3, a5⟩
theorem Wx.later (h : Wx w gw vl vi vm G n I Z) (hb : Below w.heap.size w W) : Wx W gw vl vi vm G n I Z := h.frame (Mv.of_below hb (fun _ => False)) (fun e => e) (fun _ _ e => e) (fun _ _ e => e) (fun _ _ e => e)
theorem Wx.cell (h : Wx w gw vl vi vm G n I Z) : w.cell? ⟨gw, 0, none⟩ = some vl ∧ w.cell? ⟨gw, 1, none⟩ = some vi ∧ w.cell? ⟨gw, 2, none⟩ = some vm := by
  refine ⟨?_, ?_, ?_⟩ <;> rw [cell_of_row w gw _ _ 29 (0, 0) h.1] <;> rfl
theorem Wx.frozen (h : Wx w gw vl vi vm G n I Z) (k : Nat) : w.frozen? ⟨gw, k, none⟩ = false := frozen_of_row w gw k _ 29 h.1
theorem Wx.lt (h : Wx w gw vl vi vm G n I Z) : gw < w.heap.size := lt_of_block h.1
/-- A list more. -/
theorem Wx.list {u : Value} (h : Wx w gw vl vi vm G n I Z) (hb : Below w.heap.size w W) (ho : W'.ownsRow 0 27 1 v' (I.length + 1) (I ++ [u])) (hg : W.grownBy W' vi.ownBlock) (ha : v'.ownBlock = vi.ownBlock ∨ v'.ownBlock = some W.heap.size) :
    (W'.cell? ⟨gw, 1, none⟩ = some vi ∧ W'.frozen? ⟨gw, 1, none⟩ = false) ∧ Wx (W'.setCell ⟨gw, 1, none⟩ v') gw vl v' vm G n (I ++ [u]) Z ∧ Mv w (W'.setCell ⟨gw, 1, none⟩ v') (fun k => k = gw ∨ vi.ownBlock = some k) := by
  have hlt := h.lt
  obtain ⟨a1, a2, a3, a4, a5, a6, a7, a8⟩ := h
  have hsz := hb.size
  have hm : Mv w (W'.setCell ⟨gw, 1, none⟩ v') (fun k => k = gw ∨ vi.ownBlock = some k) := ((Mv.of_below hb _).grown hg (fun q _ e => .inr e)).set (g := gw) (.inl rfl) 1 v'
  have hvb : ∀ q, v'.ownBlock = some q → vi.ownBlock = some q ∨ w.heap.size ≤ q := fun q e => by
    rcases ha with h | h
    · exact .inl (h ▸ e)
    · rw [e] at h; have := Option.some.inj h; exact .inr (by omega)
  have hne : v'.ownBlock ≠ some gw := fun e => by
    rcases hvb gw e with h | h
    · exact a5.2.1 h
    · omega
  have h1 : W'.heap[gw]? = some (.cells #[vl, vi, vm] 29 (0, 0)) := (hg.block gw (by omega) (fun e => a5.2.1 e.symm)).trans ((hb.block gw hlt).trans a1)
  have nv : ∀ v : Value, v.ownBlock ≠ some gw → Ap vi v → ∀ q, v.ownBlock = some q → ¬ (q = gw ∨ vi.ownBlock = some q) := fun v h1 h2 q e r => by
    rcases r with rfl | r
    · exact h1 e
    · exact h2 q r e
  have av : ∀ v : Value, Ap vi v → (∀ q, v.ownBlock = some q → q < w.heap.size) → Ap v' v := fun v h1 h2 q e1 e2 => by
    rcases hvb q e1 with h | h
    · exact h1 q h e2
    · have := h2 q e2; omega
  refine ⟨⟨by rw [cell_of_row W' gw _ _ 29 (0, 0) h1]; rfl, frozen_of_row W' gw _ _ 29 h1⟩, ⟨heap_setCell_same W' gw 1 _ 29 v' h1, hm.own a2 (nv vl a5.1 a6.symm), ?_, hm.own a4 (nv vm a5.2.2 a8), ⟨a5.1, hne, a5.2.2⟩, (av vl a6.symm (fun q e => (a2.lt q e).2)).symm, a7, av vm a8 (fun q e => (a4.lt q e).2)⟩, hm⟩
  rw [List.length_append]
  exact own_set ho hne
/-- A mark more. -/
theorem Wx.mark {u : Int} (h : Wx w gw vl vi vm G n I Z) (hb : Below w.heap.size w W) (ho : W'.ownsRow 0 2 1 v' (Z.length + 1) (zc Z ++ [.int .i64 u])) (hg : W.grownBy W' vm.ownBlock) (ha : v'.ownBlock = vm.ownBlock ∨ v'.ownBlock = some W.heap.size) :
    (W'.cell? ⟨gw, 2, none⟩ = some vm ∧ W'.frozen? ⟨gw, 2, none⟩ = false) ∧ Wx (W'.setCell ⟨gw, 2, none⟩ v') gw vl vi v' G n I (Z ++ [u]) ∧ Mv w (W'.setCell ⟨gw, 2, none⟩ v') (fun k => k = gw ∨ vm.ownBlock = some k) := by
  have hlt := h.lt
  obtain ⟨a1, a2, a3, a4, a5, a6, a7, a8⟩ := h
  have hsz := hb.size
  have hm : Mv w (W'.setCell ⟨gw, 2, none⟩ v') (fun k => k = gw ∨ vm.ownBlock = some k) := ((Mv.of_below hb _).grown hg (fun q _ e => .inr e)).set (g := gw) (.inl rfl) 2 v'
  have hvb : ∀ q, v'.ownBlock = some q → vm.ownBlock = some q ∨ w.heap.size ≤ q := fun q e => by
    rcases ha with h | h
    · exact .inl (h ▸ e)
    · rw [e] at h; have := Option.some.inj h; exact .inr (by omega)
  have hne : v'.ownBlock ≠ some gw := fun e => by
    rcases hvb gw e with h | h
    · exact a5.2.2 h
    · omega
  have h1 : W'.heap[gw]? = some (.cells #[vl, vi, vm] 29 (0, 0)) := (hg.block gw (by omega) (fun e => a5.2.2 e.symm)).trans ((hb.block gw hlt).trans a1)
  have nv : ∀ v : Value, v.ownBlock ≠ some gw → Ap vm v → ∀ q, v.ownBlock = some q → ¬ (q = gw ∨ vm.ownBlock = some q) := fun v h1 h2 q e r => by
    rcases r with rfl | r
    · exact h1 e
    · exact h2 q r e
  have av : ∀ v : Value, Ap vm v → (∀ q, v.ownBlock = some q → q < w.heap.size) → Ap v' v := fun v h1 h2 q e1 e2 => by
    rcases hvb q e1 with h | h
    · exact h1 q h e2
    · have := h2 q e2; omega
  refine ⟨⟨by rw [cell_of_row W' gw _ _ 29 (0, 0) h1]; rfl, frozen_of_row W' gw _ _ 29 h1⟩, ⟨heap_setCell_same W' gw 2 _ 29 v' h1, hm.own a2 (nv vl a5.1 a7.symm), hm.own a3 (nv vi a5.2.1 a8.symm), ?_, ⟨a5.1, a5.2.1, hne⟩, a6, (av vl a7.symm (fun q e => (a2.lt q e).2)).symm, (av vi a8.symm (fun q e => (a3.lt q e).2)).symm⟩, hm⟩
  rw [List.length_append, zc_append]
  exact own_set ho hne
end
end Go.Proofs.Ytlnjphfkinajdaa
