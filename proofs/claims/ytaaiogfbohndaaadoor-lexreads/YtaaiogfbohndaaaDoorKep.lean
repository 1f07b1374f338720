/-
  The law's keep: tokens are their owner's, who writes over them, and behind them.
-/
import Derived.Test.YtaaiogfbohndaaaDoorHld
import Derived.Test.YtaaiogfbohndaaaDoorKap
import Derived.Deep.LoopGhost
namespace Go.Proofs.YtaaiogfbohndaaaDoor
open Go.RowKit
set_option maxRecDepth 1000000
theorem one_new (w1 : World) (x y z : Value) : ∀ (j : Nat) (u : Value), [x, y, z][j]? = some u → (w1.alloc (.cells #[x, y, z] 48)).cell? ((⟨w1.heap.size, 0, none⟩ : Addr).add j) = some u := by
  intro j u hj
  have hh : (w1.alloc (.cells #[x, y, z] 48)).heap[w1.heap.size]? = some (.cells #[x, y, z] 48 (0, 0)) := Array.getElem?_push_size
  have hc := fun j => cell_of_row _ _ j _ 48 (0, 0) hh
  rw [← hj]
  simp only [Addr.add, Nat.zero_add]
  split
  · rename_i h0
    subst h0
    rw [hc 0]
    rfl
  · rw [hc j]
    simp
theorem two_new (w1 : World) (x y : Value) : ∀ (j : Nat) (u : Value), [x, y][j]? = some u → (w1.alloc (.cells #[x, y] 57)).cell? ((⟨w1.heap.size, 0, none⟩ : Addr).add j) = some u := by
  intro j u hj
  have hh : (w1.alloc (.cells #[x, y] 57)).heap[w1.heap.size]? = some (.cells #[x, y] 57 (0, 0)) := Array.getElem?_push_size
  have hc := fun j => cell_of_row _ _ j _ 57 (0, 0) hh
  rw [← hj]
  simp only [Addr.add, Nat.zero_add]
  split
  · rename_i h0
    subst h0
    rw [hc 0]
    rfl
  · rw [hc j]
    simp
/-- Three cells are written over. -/
theorem put_mark (xs : List Value) (m k n : Nat) (hx : xs.length = n * 3) (hk : k < n) (a b c : Value) (habc : mk m = [a, b, c]) :
    (((rep k m ++ xs.drop (k * 3)).set (k * 3) a).set (k * 3 + 1) b).set (k * 3 + 2) c = rep (k + 1) m ++ xs.drop ((k + 1) * 3) := by
  have hl := rep_len k m
  obtain ⟨x0, x1, x2, hd⟩ : ∃ x0 x1 x2, xs.drop (k * 3) = x0 :: x1 :: x2 :: xs.drop ((k + 1) * 3) := by
    refine ⟨xs[k * 3]'(by omega), xs[k * 3 + 1]'(by omega), xs[k * 3 + 2]'(by omega), ?_⟩
    rw [List.drop_eq_getElem_cons (by omega), List.drop_eq_getElem_cons (i := k * 3 + 1) (by omega), List.drop_eq_getElem_cons (i := k * 3 + 1 + 1) (by omega)]
    congr 4
    omega
  rw [hd, List.set_append_right _ _ (by omega), hl, Nat.sub_self, List.set_cons_zero, List.set_append_right _ _ (by omega), hl, show k * 3 + 1 - k * 3 = 1 by omega, List.set_cons_succ, List.set_cons_zero, List.set_append_right _ _ (by omega), hl, show k * 3 + 2 - k * 3 = 2 by omega, List.set_cons_succ, List.set_cons_succ, List.set_cons_zero, rep, habc]
  simp
/-- While one is kept: v0, vk0: what there was at first; vl: the row as it has grown; vk: the list. -/
def Ks (w0 : World) (X : Nat → Prop) (v0 vk0 : Value) (wr : World) (vl : Value) (nl : Nat) (vk : Value) (hs : List (Value × Nat)) (m : Nat) : Prop :=
  wr.ownsRow 0 48 3 vl nl (rep nl m) ∧ Kept wr (fun k => X k ∨ v0.ownBlock = some k ∨ w0.heap.size ≤ k) vk hs ∧ Mv w0 wr (fun k => v0.ownBlock = some k ∨ vk0.ownBlock = some k) ∧
  (∀ g, vl.ownBlock = some g → (v0.ownBlock = some g ∨ w0.heap.size ≤ g) ∧ vk.ownBlock ≠ some g) ∧ (∀ g, vk.ownBlock = some g → vk0.ownBlock = some g ∨ w0.heap.size ≤ g) ∧
  (∀ h ∈ hs, ∀ g, h.1.ownBlock = some g → vl.ownBlock = some g → ∃ n' c, h.1 = .slice (some ⟨g, 0, none⟩) n' c ∧ n' ≤ nl)
section
variable {w0 wr w2 : World} {X : Nat → Prop} {v0 vk0 vl vl' vk vk' : Value} {nl m : Nat} {hs : List (Value × Nat)}
theorem Ks.later {o : Obj} (h : Ks w0 X v0 vk0 wr vl nl vk hs m) : Ks w0 X v0 vk0 (wr.alloc o) vl nl vk hs m := by
  obtain ⟨h1, h2, h3, h4, h5, h6⟩ := h
  exact ⟨h1.alloc o, h2.frame (Mv.alloc wr o (fun _ => False)) (fun _ _ e => e), h3.trans (Mv.alloc wr o (fun _ => False)) (fun _ _ e => e.elim), h4, h5, h6⟩
/-- The row has grown by one. -/
theorem Ks.grow (h : Ks w0 X v0 vk0 wr vl nl vk hs m) (ho : w2.ownsRow 0 48 3 vl' (nl + 1) (rep nl m ++ mk m)) (hg : wr.grownBy w2 vl.ownBlock) (hv : vl'.ownBlock = vl.ownBlock ∨ vl'.ownBlock = some wr.heap.size)
    (hc : ∀ g j, vl.ownBlock = some g → j < nl * 3 → w2.cell? ⟨g, j, none⟩ = wr.cell? ⟨g, j, none⟩) : Ks w0 X v0 vk0 w2 vl' (nl + 1) vk hs m := by
  obtain ⟨h1, ⟨k1, k2, k3⟩, h3, h4, h5, h6⟩ := h
  have hm := Mv.of_grown hg
  have hsz := h3.2.2.2.1
  refine ⟨ho, ⟨hm.own k1 (fun g e e' => (h4 g e').2 e), k2, fun x hx => ?_⟩, h3.trans hm (fun q hq e => ?_), fun g e => ?_, h5, fun x hx g e e' => ?_⟩
  · obtain ⟨⟨ao, n, c, q1, q2, q3, q4⟩, a2⟩ := k3 x hx
    refine ⟨⟨ao, n, c, q1, q2, q3, fun k hk => ?_⟩, fun g e => ⟨(a2 g e).1, Nat.lt_of_lt_of_le (a2 g e).2.1 hg.size, (a2 g e).2.2⟩⟩
    obtain ⟨g, rfl, hcell⟩ := q4 k hk
    refine ⟨g, rfl, fun j hj => ?_⟩
    rw [← hcell j hj]
    by_cases hb : vl.ownBlock = some g
    · obtain ⟨n', c', e1, e2⟩ := h6 x hx g (by rw [q1]; rfl) hb
      rw [q1] at e1
      simp only [Value.slice.injEq] at e1
      exact hc g (k * 3 + j) hb (by omega)
    · have hlt := (a2 g (by rw [q1]; rfl)).2.1
      exact World.cell?_of_block (hg.block g hlt (fun e => hb e.symm))
  · rcases (h4 q e).1 with h | h
    · exact .inl h
    · omega
  · rcases hv with hv | hv
    · rw [hv] at e; exact h4 g e
    · rw [hv] at e
      have e := Option.some.inj e
      subst e
      refine ⟨.inr hsz, fun e' => ?_⟩
      have := (k1.lt _ e').2
      omega
  · rcases hv with hv | hv
    · rw [hv] at e'
      obtain ⟨n', c, q1, q2⟩ := h6 x hx g e e'
      exact ⟨n', c, q1, by omega⟩
    · rw [hv] at e'
      have e' := Option.some.inj e'
      have := ((k3 x hx).2 g e).2.1
      omega
/-- The row is kept, as it is. -/
theorem Ks.push (h : Ks w0 X v0 vk0 wr vl nl vk hs m) (ho : w2.ownsRow 0 57 2 vk' (hs.length + 1) (flat hs ++ [vl, .int .i64 (m : Nat)])) (hg : wr.grownBy w2 vk.ownBlock) (hv : vk'.ownBlock = vk.ownBlock ∨ vk'.ownBlock = some wr.heap.size) : Ks w0 X v0 vk0 w2 vl nl vk' (hs ++ [(vl, m)]) m := by
  obtain ⟨h1, h2, h3, h4, h5, h6⟩ := h
  have hm := Mv.of_grown hg
  have hsz := h3.2.2.2.1
  have hne : ∀ g, vl.ownBlock = some g → vk'.ownBlock ≠ some g := fun g e e' => by
    rcases hv with hv | hv
    · rw [hv] at e'; exact (h4 g e).2 e'
    · rw [hv] at e'
      have := Option.some.inj e'
      have := (h1.lt g e).2
      omega
  have hk := h2.push ho hg hv (hd_own h1) (fun g e => ⟨(h1.lt g e).2, (h4 g e).2⟩)
  refine ⟨hm.own h1 (fun g e e' => (h4 g e).2 e'), hk.wider (fun k _ hx => ?_), h3.trans hm (fun q hq e => ?_), fun g e => ⟨(h4 g e).1, hne g e⟩, fun g e => ?_, fun x hx g e e' => ?_⟩
  · rcases hx with hx | hx | hx
    · exact hx
    · exact .inr (h4 k hx).1
    · exact .inr (.inr (by omega))
  · rcases h5 q e with h | h
    · exact .inr h
    · omega
  · rcases hv with hv | hv
    · rw [hv] at e; exact h5 g e
    · rw [hv] at e
      have := Option.some.inj e
      exact .inr (by omega)
  · rcases List.mem_append.1 hx with hx | hx
    · exact h6 x hx g e e'
    · simp only [List.mem_cons, List.not_mem_nil, or_false] at hx
      subst hx
      obtain ⟨a, c, rfl⟩ := own_len h1
      cases a with
      | none => cases e
      | some ad =>
        have hb : ad = ⟨g, 0, none⟩ := by
          rcases h1.2 with ⟨q, _⟩ | ⟨g', c', cur, q, _⟩
          · cases q
          · simp only [Value.slice.injEq, Option.some.injEq] at q
            rw [q.1] at e ⊢
            have : g' = g := by simpa [Value.ownBlock] using e
            rw [this]
        exact ⟨nl, c, by rw [hb], Nat.le_refl _⟩
end
set_option maxHeartbeats 8000000 in
theorem keep_any (X : Nat → Prop) (n : Nat) (vk v : Value) (hs : List (Value × Nat)) (xs : List Value) (w : World) (hk : Kept w X vk hs) (hlen : hs.length ≤ 1000) (hv : w.ownsRow 0 48 3 v n xs) (hn : n ≤ 9000)
    (hvk : ∀ g, v.ownBlock = some g → ¬ X g) :
    Calls Tryd.prog 11 #[vk, v] w fun e w' => ∃ vk' hs', e = .returned vk' ∧ hs'.length = hs.length + 4 ∧ Kept w' (fun k => X k ∨ v.ownBlock = some k ∨ w.heap.size ≤ k) vk' hs' ∧ Mv w w' (fun k => v.ownBlock = some k ∨ vk.ownBlock = some k) := by
  obtain ⟨i0, hi, hz0, hz1, hz2⟩ := info_parts info57
  obtain ⟨i5, hi5, hy0, hy1, hy2⟩ := info_parts info48
  obtain ⟨ao, cap, rfl⟩ := own_len hv
  obtain ⟨aok, capk, rfl⟩ := own_len hk.1
  obtain ⟨hcap1, hcap2⟩ := own_cap hv
  have hxl : xs.length = n * 3 := hv.1
  obtain ⟨nk, hnk⟩ : ∃ nk, nk = hs.length := ⟨_, rfl⟩
  have HNK := hide hnk
  rw [← hnk] at hlen hk ⊢
  clear hnk
  obtain ⟨m, hm⟩ : ∃ m, m = 7000 + nk := ⟨_, rfl⟩
  have hmi : (7000 : Int) + (nk : Int) = (m : Int) := by omega
  have HK := hide hk
  have HV := hide hv
  have HVK := hide hvk
  clear hm hk hv hvk
  go_enter Tryd.func11, Tryd.ntmps11
  go_wp2_with fail
  go_loopg [6] n (fun q v6 wr => ∃ j : Nat, q = n - j ∧ j ≤ n ∧ v6 = .int .i64 (j : Int) ∧ Hid (wr.ownsRow 0 48 3 (.slice ao n cap) n (rep j m ++ xs.drop (j * 3))) ∧ Hid (Mv w wr (fun k => (Value.slice ao n cap).ownBlock = some k)))
  case atStart => exact ⟨0, rfl, by omega, rfl, by simpa [Hid, rep] using HV.out, Mv.refl _ _⟩
  case round =>
    obtain ⟨j, hq, hj, rfl, HO, HM⟩ := hrel
    by_cases hlt : j < n
    · have e1 : (j : Int) < (n : Int) := by omega
      obtain ⟨g, rfl⟩ := own_addr HO.out (by omega)
      have hlen2 : (rep j m ++ xs.drop (j * 3)).length = n * 3 := by rw [List.length_append, rep_len, List.length_drop]; omega
      have c0 := HO.out.cellAt (j * 3) (by omega)
      have c1 := HO.out.cellAt (j * 3 + 1) (by omega)
      have c2 := HO.out.cellAt (j * 3 + 2) (by omega)
      rw [List.getElem?_eq_getElem (by omega)] at c0 c1 c2
      generalize (rep j m ++ xs.drop (j * 3))[j * 3] = y0 at c0
      generalize (rep j m ++ xs.drop (j * 3))[j * 3 + 1] = y1 at c1
      generalize (rep j m ++ xs.drop (j * 3))[j * 3 + 2] = y2 at c2
      have f : ∀ j, wr.frozen? ⟨g, j, none⟩ = false := fun j => HO.out.frozenAt j
      clear hlen2
      go_wp2_with fail
      go_roundg (n - (j + 1))
      case measure => omega
      case rel =>
        refine ⟨j + 1, rfl, hlt, by simp, ?_, ?_⟩
        · have s1 := (HO.out.stored (j * 3) (.int .i64 (m : Nat))).1
          have s2 := (s1.stored (j * 3 + 1) (.string ⟨#[]⟩)).1
          have s3 := (s2.stored (j * 3 + 2) (.int .i64 0)).1
          rw [put_mark xs m j n hxl hlt (.int .i64 (m : Nat)) (.string ⟨#[]⟩) (.int .i64 0) rfl] at s3
          exact s3
        · refine HM.out.trans (((Mv.set wr g _ _).trans (Mv.set _ g _ _) (fun _ _ e => e)).trans (Mv.set _ g _ _) (fun _ _ e => e)) (fun q _ e => ?_)
          rw [e]
          rfl
    · obtain rfl : j = n := by omega
      have ho := HO.out
      rw [List.drop_eq_nil_of_le (by omega), List.append_nil] at ho
      have hks : Ks w X (.slice ao j cap) (.slice aok nk capk) wr (.slice ao j cap) j (.slice aok nk capk) hs m := by
        have hkk := HK.out
        refine ⟨ho, (hkk.frame HM.out (fun k hx e => HVK.out k e hx)).wider (fun k _ hx => .inl hx), HM.out.trans (Mv.refl _ (fun _ => False)) (fun _ _ e => e.elim) |>.wide (fun k e => .inl e), fun g e => ⟨.inl e, fun e' => HVK.out g e (hkk.2.1 g e')⟩, fun g e => .inl e, fun h hh g e e' => absurd ((hkk.2.2 h hh).2 g e).1 (HVK.out g e')⟩
      have HKS := hide hks
      have hok : ∀ o, (wr.alloc o).ownsRow 0 57 2 (.slice aok nk capk) nk (flat hs) := fun o => by
        have := (hks.later (o := o)).2.1.1
        rw [← HNK.out] at this
        exact this
      clear hks ho HO HM
      go_wp2_with (at_builtin; refine wpList_append_keep rfl _ _ 24 rfl 0 57 i0 (.agg #[.slice none 0 0, .int .i64 0]) 2 32 Tryd.underlying24 hi hz0 hz1 hz2 rfl (by decide) _ _ _ rfl (hok _) ⟨_, 0, none⟩ 1 1 [.slice ao j cap, .int .i64 (m : Nat)] rfl rfl ?c1A ?c2A ?c3A ?c4A ?c5A ?_)
      case c1A => exact two_new _ _ _
      case c2A =>
        intro u hu
        simp only [List.mem_cons, List.not_mem_nil, or_false] at hu
        rcases hu with rfl | rfl <;> rfl
      case c3A => unfold maxLen; omega
      case c4A => omega
      case c5A => omega
      intro vk1 w2 hok2 hg2 hat2 _
      have HKS2 := hide (HKS.out.later.push (by rw [← HNK.out]; exact hok2) hg2 (hat2.imp id (fun h => h.trans (by simp))))
      obtain ⟨ak1, ck1, rfl⟩ := own_len hok2
      clear hok2 hg2 hat2 HKS hok
      go_wp2_with fail
      go_loopg [0, 1, 7] 70 (fun q u0 u1 u7 wr => ∃ (i : Nat) (hs' : List (Value × Nat)), q = 70 - i ∧ i ≤ 70 ∧ u7 = .int .i64 (i : Int) ∧ Hid (hs'.length = nk + 1 + min i 2 + i / 70) ∧ Hid (Ks w X (.slice ao j cap) (.slice aok nk capk) wr u1 (j + i) u0 hs' m))
      case atStart => exact ⟨0, _, rfl, by omega, rfl, by simp [Hid, HNK.out], HKS2⟩
      case round =>
        clear HKS2
        obtain ⟨i, hs', hq2, hi2, rfl, HL, HKS⟩ := hrel
        obtain ⟨al, cl, rfl⟩ := own_len HKS.out.1
        obtain ⟨nk2, hnk2⟩ : ∃ n, n = hs'.length := ⟨_, rfl⟩
        obtain ⟨ak, ck, rfl⟩ : ∃ a c, _ = Value.slice a nk2 c := by rw [hnk2]; exact own_len HKS.out.2.1.1
        have HN2 := hide hnk2
        have hn2 : nk2 ≤ 1100 := by have := HL.out; omega
        clear hnk2
        by_cases hlt : i < 70
        · have e1 : (i : Int) < 70 := by omega
          have hol : ∀ o, (wr.alloc o).ownsRow 0 48 3 (.slice al (j + i) cl) (j + i) (rep (j + i) m) := fun o => (HKS.out.later (o := o)).1
          have hsplit : (i < 2 ∨ i = 69) ∨ (¬ i < 2 ∧ ¬ i = 69) := by omega
          rcases hsplit with hyes | hno
          · have hdec : ((decide ((i : Int) < 2)) = true) ∨ ((decide ((i : Int) < 2)) = false ∧ ((i : Int) == 69) = true) := by
              rcases hyes with h | h
              · exact .inl (decide_eq_true (by omega))
              · exact .inr ⟨decide_eq_false (by omega), by rw [beq_iff_eq]; omega⟩
            have HY := hide hyes
            clear hyes
            rcases hdec with hd1 | ⟨hd1, hd2⟩
            all_goals
              go_wp2_with (at_builtin; apply stopHere)
              show wpList _ _ _ _ _ _
              refine wpList_append_keep rfl _ _ 25 rfl 0 48 i5 (.agg #[.int .i64 0, .string ByteArray.empty, .int .i64 0]) 3 32 Tryd.underlying25 hi5 hy0 hy1 hy2 rfl (by decide) _ _ _ rfl (hol _) ⟨_, 0, none⟩ 1 1 [.int .i64 (m : Nat), .string ⟨#[]⟩, .int .i64 0] rfl rfl (one_new _ _ _ _) ?b2 ?b3 ?b4 ?b5 ?_
              case b2 =>
                intro u hu
                simp only [List.mem_cons, List.not_mem_nil, or_false] at hu
                rcases hu with rfl | rfl | rfl <;> rfl
              case b3 => unfold maxLen; omega
              case b4 => omega
              case b5 => omega
              intro vl' w3 ho3 hg3 hat3 hc3
              have HKS3 := hide (HKS.out.later.grow ho3 hg3 (hat3.imp id (fun h => h.trans (by simp))) hc3)
              obtain ⟨al', cl', rfl⟩ := own_len ho3
              clear ho3 hg3 hat3 hc3 HKS hol
              have hok : ∀ o, (w3.alloc o).ownsRow 0 57 2 (.slice ak nk2 ck) nk2 (flat hs') := fun o => by
                have := (HKS3.out.later (o := o)).2.1.1
                rw [← HN2.out] at this
                exact this
              go_wp2_with (at_builtin; apply stopHere)
              show wpList _ _ _ _ _ _
              refine wpList_append_keep rfl _ _ 24 rfl 0 57 i0 (.agg #[.slice none 0 0, .int .i64 0]) 2 32 Tryd.underlying24 hi hz0 hz1 hz2 rfl (by decide) _ _ _ rfl (hok _) ⟨_, 0, none⟩ 1 1 [.slice al' (j + i + 1) cl', .int .i64 (m : Nat)] rfl rfl (two_new _ _ _) ?c2 ?c3 ?c4 ?c5 ?_
              case c2 =>
                intro u hu
                simp only [List.mem_cons, List.not_mem_nil, or_false] at hu
                rcases hu with rfl | rfl <;> rfl
              case c3 => unfold maxLen; omega
              case c4 => omega
              case c5 => omega
              intro vk2 w4 hok4 hg4 hat4 _
              have HKS4 := hide (HKS3.out.later.push (by rw [← HN2.out]; exact hok4) hg4 (hat4.imp id (fun h => h.trans (by simp))))
              clear hok4 hg4 hat4 HKS3 hok
              go_wp2_with fail
              go_roundg (70 - (i + 1))
              case measure => omega
              case rel =>
                refine ⟨i + 1, _, rfl, by omega, by simp, ?_, HKS4⟩
                have := HL.out
                have := HY.out
                simp only [Hid, List.length_append, List.length_cons, List.length_nil]
                omega
          · have hd1 : decide ((i : Int) < 2) = false := decide_eq_false (by omega)
            have hd2 : ((i : Int) == 69) = false := by rw [beq_eq_false_iff_ne]; omega
            have HY := hide hno
            clear hno
            go_wp2_with (at_builtin; apply stopHere)
            show wpList _ _ _ _ _ _
            refine wpList_append_keep rfl _ _ 25 rfl 0 48 i5 (.agg #[.int .i64 0, .string ByteArray.empty, .int .i64 0]) 3 32 Tryd.underlying25 hi5 hy0 hy1 hy2 rfl (by decide) _ _ _ rfl (hol _) ⟨_, 0, none⟩ 1 1 [.int .i64 (m : Nat), .string ⟨#[]⟩, .int .i64 0] rfl rfl (one_new _ _ _ _) ?b2 ?b3 ?b4 ?b5 ?_
            case b2 =>
              intro u hu
              simp only [List.mem_cons, List.not_mem_nil, or_false] at hu
              rcases hu with rfl | rfl | rfl <;> rfl
            case b3 => unfold maxLen; omega
            case b4 => omega
            case b5 => omega
            intro vl' w3 ho3 hg3 hat3 hc3
            have HKS3 := hide (HKS.out.later.grow ho3 hg3 (hat3.imp id (fun h => h.trans (by simp))) hc3)
            obtain ⟨al', cl', rfl⟩ := own_len ho3
            clear ho3 hg3 hat3 hc3 HKS hol
            go_wp2_with fail
            go_roundg (70 - (i + 1))
            case measure => omega
            case rel =>
              refine ⟨i + 1, hs', rfl, by omega, by simp, ?_, HKS3⟩
              have := HL.out
              have := HY.out
              simp only [Hid]
              omega
        · obtain rfl : i = 70 := by omega
          go_wp2_with fail
          go_ret
          have hL := HL.out
          exact ⟨_, hs', rfl, by omega, HKS.out.2.1, HKS.out.2.2.1⟩
end Go.Proofs.YtaaiogfbohndaaaDoor
