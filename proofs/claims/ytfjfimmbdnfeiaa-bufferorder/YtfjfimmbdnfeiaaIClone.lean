/-
  slices.Clone, slices.Delete, State.
-/
import Derived.Test.YtfjfimmbdnfeiaaIPool
import Derived.Lib.SliceRun
namespace Go.Proofs.Ytfjfimmbdnfeiaa
open Go.RowKit
set_option maxRecDepth 100000
theorem step_append_fits {P : Program} (w : World) {ops : Array Oper} {o : Oper} {a : Act} {K : Act → World → Prop} {Q : Exit → Act → World → Prop} {E : Prop} (hgd : o.guard = none) (s x : Operand) (t : TypeId)
    (ho : o.op = .call { callee := .builtin .append, args := #[s, x], argTypes := #[t, t] })
    (base : Nat) (e : TypeId) (i : TypeInfo) (size : Nat) (ht : P.underlying t = some (.slice e)) (hi : P.info? e = some i) (hsize : i.size = size)
    (g n cap : Nat) (xs : List Value) (hs : a.eval s = .slice (some ⟨g, 0, none⟩) n cap) (hown : w.ownsRow base e size (.slice (some ⟨g, 0, none⟩) n cap) n xs)
    (ad : Addr) (m c : Nat) (news : List Value) (hx : a.eval x = .slice (some ad) m c) (hl : news.length = m * size) (hnews : ∀ j u, news[j]? = some u → w.cell? (ad.add j) = some u) (h1 : ∀ u ∈ news, u.oneCell' = true)
    (hroom : n + m ≤ cap)
    (h : ∀ w', w'.ownsRow base e size (.slice (some ⟨g, 0, none⟩) (n + m) cap) (n + m) (xs ++ news) → w.grownBy w' (some g) → K (a.put o.dst (.slice (some ⟨g, 0, none⟩) (n + m) cap)) w') :
    if Region.wanted o (yielded ops a.tmps) = true then Oper.wp P o a w K Q else E := by
  have hw : Region.wanted o (yielded ops a.tmps) = true := by simp [Region.wanted, hgd]
  rw [if_pos hw]
  obtain ⟨w', hr, h2, h3⟩ := run_append_fits (P := P) w base t o.type e i size ht hi hsize g n cap xs hown ad m c news hl hnews h1 hroom
  unfold Oper.wp execOp
  simp only [ho, resolve, invoke, builtin, Sem.run_bind, Sem.run_pure, Result.andThen_ok, List.map_toArray, List.map_cons, List.map_nil, hs, hx, hr]
  exact h w' h2 h3
theorem own_cut {w : World} {B g c m k e : Nat} {xs : List Value} (h : w.ownsRow B e 1 (.slice (some ⟨g, 0, none⟩) m c) m xs) (hk : k ≤ m) : w.ownsRow B e 1 (.slice (some ⟨g, 0, none⟩) k c) k (xs.take k) := by
  have hlen := h.1
  rcases h.2 with ⟨h', _⟩ | ⟨gv', c', cur, h', hb, hg, h1, h2, h3, h4⟩
  · simp at h'
  · simp only [Value.slice.injEq, Option.some.injEq, Addr.mk.injEq, and_true, true_and] at h'
    obtain ⟨rfl, rfl⟩ := h'
    refine ⟨by rw [List.length_take]; omega, .inr ⟨g, c, cur, rfl, hb, hg, by omega, h2, h3, ?_⟩⟩
    rw [← h4, List.take_take]
    congr 1
    omega
/-- What lies behind the length. -/
theorem own_spare {w : World} {B g c m j e : Nat} {xs : List Value} (h : w.ownsRow B e 1 (.slice (some ⟨g, 0, none⟩) m c) m xs) (hj : j < c) : (∃ u, w.cell? ⟨g, j, none⟩ = some u) ∧ w.frozen? ⟨g, j, none⟩ = false := by
  rcases h.2 with ⟨h', _⟩ | ⟨gv', c', cur, h', hb, hg, h1, h2, h3, h4⟩
  · simp at h'
  · simp only [Value.slice.injEq, Option.some.injEq, Addr.mk.injEq, and_true, true_and] at h'
    obtain ⟨rfl, rfl⟩ := h'
    refine ⟨⟨cur[j]'(by omega), ?_⟩, frozen_of_row w g j _ e hg⟩
    rw [cell_of_row w g j cur e (0, 0) hg, Array.getElem?_eq_getElem]
theorem own_beyond {w : World} {B g c m j e : Nat} {xs : List Value} {u : Value} (h : w.ownsRow B e 1 (.slice (some ⟨g, 0, none⟩) m c) m xs) (hj : m ≤ j) : (w.setCell ⟨g, j, none⟩ u).ownsRow B e 1 (.slice (some ⟨g, 0, none⟩) m c) m xs := by
  have := (h.stored j u).1
  rwa [List.set_eq_of_length_le (by have := h.1; omega)] at this
set_option maxHeartbeats 1000000 in
theorem delete_first (g c x : Nat) (l : List Nat) (w : World) (h : w.ownsRow 0 3 1 (.slice (some ⟨g, 0, none⟩) (l.length + 1) c) (l.length + 1) (ic (x :: l))) (hn : l.length ≤ 1000000) :
    Calls Try.prog 79 #[.slice (some ⟨g, 0, none⟩) (l.length + 1) c, .int .i64 0, .int .i64 1] w fun e w' => e = .returned (.slice (some ⟨g, 0, none⟩) l.length c) ∧ w'.ownsRow 0 3 1 (.slice (some ⟨g, 0, none⟩) l.length c) l.length (ic l) ∧ Mv w w' (fun k => k = g) := by
  obtain ⟨i0, hi, hz0, hz1, hz2⟩ := info_parts info3
  obtain ⟨hc1, hc2⟩ := own_cap h
  have t1 : (1 : Int) ≤ (l.length : Int) + 1 := by omega
  have t2 : (l.length : Int) + 1 ≤ (c : Int) := by omega
  have HC : Hid (w.drew.ownsRow 0 3 1 (.slice (some ⟨g, 0, none⟩) 0 c) 0 []) := own_cut (k := 0) h (by omega)
  have HN : Hid (∀ j u, (ic l)[j]? = some u → w.drew.cell? ((⟨g, 1, none⟩ : Addr).add j) = some u) := fun j u hj => by
    have hjl : j < l.length := by rw [← ic_len]; exact (List.getElem?_eq_some_iff.1 hj).1
    have := h.cellAt (j + 1) (by omega)
    rw [WideShapes.add_plain, Nat.add_comm]
    refine this.trans ?_
    rw [← hj]
    simp [ic]
  have K : Hid (∀ w9 : World, w9.ownsRow 0 3 1 (.slice (some ⟨g, 0, none⟩) (0 + l.length) c) (0 + l.length) ([] ++ ic l) → w.drew.grownBy w9 (some g) → (w9.ownsRow 0 3 1 (.slice (some ⟨g, 0, none⟩) l.length c) l.length (ic l) ∧ Mv w w9 (fun k => k = g)) ∧ (∃ u, w9.cell? ⟨g, l.length, none⟩ = some u) ∧ w9.frozen? ⟨g, l.length, none⟩ = false) := fun w9 h1 h2 => by
    rw [Nat.zero_add, List.nil_append] at h1
    have := own_spare (j := l.length) h1 (by omega)
    exact ⟨⟨h1, (Mv.of_below (below_drew w) _).grown h2 (fun k _ e => by cases e; rfl)⟩, this⟩
  have CL : Hid (∀ w9 : World, (∃ u, w9.cell? ⟨g, l.length, none⟩ = some u) → w9.frozen? ⟨g, l.length, none⟩ = false → ∀ ty k, (Builtin.clear_ #[23] ty #[.slice (some ⟨g, l.length, none⟩) 1 k]).run Try.prog w9 = .ok (.tuple #[]) (w9.setCell ⟨g, l.length, none⟩ (.int .i64 0))) := fun w9 h1 h2 ty k => by
    refine Lib.run_clear_slice w9 23 3 ty (.int .i64 0) Try.underlying23 (fun W => ?_) rfl rfl g l.length 1 k (by omega) (fun j hj => ?_) (fun j hj => ?_)
    · simp [zeroValue, typeInfo, hi, hz0]
    · obtain rfl : j = 0 := by omega
      obtain ⟨u, hu⟩ := h1
      simp [hu]
    · obtain rfl : j = 0 := by omega
      simpa using h2
  have u1 : ¬ c = l.length := by omega
  have u2 : l.length ≤ c := by omega
  have u3 : (l.length : Int) ≤ (l.length : Int) + 1 := by omega
  have u4 : l.length + 1 - l.length = 1 := by omega
  clear h
  by_cases hc : c = 1
  · have hl0 : l.length = 0 := by omega
    obtain rfl : l = [] := List.eq_nil_of_length_eq_zero hl0
    subst hc
    clear u1 u2 u3 u4 hl0
    go_enter Try.func79, Try.ntmps79
    go_wp2_with fail
    go_region_law (refine step_append_fits _ rfl (.tmp 22) (.tmp 25) 23 rfl 0 3 i0 1 Try.underlying23 hi hz1 g 0 1 [] (by simp [Act.eval, Act.put]) HC.out ⟨g, 0, none⟩ 0 0 [] (by simp [Act.eval, Act.put]) rfl (fun j u hj => by simp at hj) (fun u hu => by simp at hu) (by omega) ?_; intro w9 ho9 hg9; obtain ⟨hk9, hu, hf9⟩ := K.out w9 ho9 hg9; have HK9 := hide hk9; have hcl := CL.out w9 hu hf9; clear ho9 hg9 hk9)
    all_goals
      simp only [List.length_nil] at hcl hu hf9
      go_wp2_with fail
      go_ret
      refine ⟨rfl, own_beyond HK9.out.1 (Nat.le_refl _), HK9.out.2.set rfl _ _⟩
  · go_enter Try.func79, Try.ntmps79
    go_wp2_with fail
    go_region_law (refine step_append_fits _ rfl (.tmp 22) (.tmp 25) 23 rfl 0 3 i0 1 Try.underlying23 hi hz1 g 0 c [] (by simp [Act.eval, Act.put]) HC.out ⟨g, 1, none⟩ l.length (c - 1) (ic l) (by simp [Act.eval, Act.put]) (by rw [ic_len]; omega) HN.out (ic_one l) (by omega) ?_; intro w9 ho9 hg9; obtain ⟨hk9, hu, hf9⟩ := K.out w9 ho9 hg9; have HK9 := hide hk9; have hcl := CL.out w9 hu hf9; clear ho9 hg9 hk9)
    all_goals
      go_wp2_with fail
      go_ret
      refine ⟨rfl, own_beyond HK9.out.1 (Nat.le_refl _), HK9.out.2.set rfl _ _⟩
end Go.Proofs.Ytfjfimmbdnfeiaa
