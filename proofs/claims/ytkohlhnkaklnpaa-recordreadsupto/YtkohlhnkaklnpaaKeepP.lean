/-
  The law's keep, of a piece: what Get, Scan and Walk hand out (no room behind it).
-/
import Derived.Test.YtkohlhnkaklnpaaKeepW
import Derived.Test.YtkohlhnkaklnpaaScan
namespace Go.Proofs.Ytkohlhnkaklnpaa
open Go.RowKit
/-- 'append' onto a slice that has no room: new memory. -/
theorem run_append_tight {w : World} (ty : TypeId) (g o n : Nat) (xs : List Value) (hl : xs.length = n) (hx : ∀ j u, xs[j]? = some u → w.cell? ⟨g, o + j, none⟩ = some u) (a : Addr) (m : Nat) (ha : w.cell? a = some (.int .u8 m)) (hlim : n + 1 ≤ 140737488355328) (c : Nat) :
    ∃ v' w', (Builtin.append_ #[22, 22] ty #[.slice (some ⟨g, o, none⟩) n n, .slice (some a) 1 c]).run Try.prog w = .ok v' w' ∧ w'.ownsRow w.heap.size 5 1 v' (n + 1) (xs ++ [.int .u8 m]) ∧ Below w.heap.size w w' := by
  obtain ⟨i0, hi, hz0, hz1, hz2⟩ := info_parts info5
  have hr := run_append_grow (P := Try.prog) w 22 ty 5 i0 (.int .u8 0) Try.underlying22 hi hz0 ⟨g, o, none⟩ n n xs (by rw [hz1]; omega) (fun j u hj => by
    rw [show (⟨g, o, none⟩ : Addr).add j = ⟨g, o + j, none⟩ by simp [Addr.add]]
    exact hx j u hj) a 1 c [.int .u8 m] (by rw [hz1]; rfl) (fun j u hj => by
      match j, hj with
      | 0, hj => simp at hj; subst hj; simpa [Addr.add] using ha) (by omega) (by omega) (growslice_fits (by omega) (by rw [hz2]; omega))
  have hge := grownCap_ge w (n + 1) n 5
  have hcm : grownCap w (n + 1) n 5 ≤ maxLen := grownCap_le_maxLen w (n + 1) n 5 (by unfold maxLen; omega)
  refine ⟨_, _, hr, ⟨by simp [hl], .inr ⟨w.heap.size, _, _, rfl, Nat.le_refl _, heap_alloc_new w.drew _, hge, hcm, ?_, ?_⟩⟩, ⟨rfl, rfl, rfl, by simp, fun k hk => heap_alloc_old w.drew _ hk⟩⟩
  · have hz : (Value.int IntKind.u8 0).cells.size = 1 := rfl
    simp only [Array.size_append, List.size_toArray, size_zeroCells, hl, hz, List.length_cons, List.length_nil]
    omega
  · simp only [Array.toList_append, List.append_assoc]
    rw [← List.append_assoc, show (n + 1) * 1 = (xs ++ [Value.int .u8 (m : Int)]).length by simp [hl]]
    exact List.take_left
theorem wpList_append_tight (w : World) {ops : Array Oper} {rest : List Oper} {o' : Oper} {a : Act} {Q : Exit → Act → World → Prop} (hgd : o'.guard = none) (s x : Operand)
    (ho : o'.op = .call { callee := .builtin .append, args := #[s, x], argTypes := #[22, 22] }) (g o n : Nat) (hs : a.eval s = .slice (some ⟨g, o, none⟩) n n) (xs : List Value) (hl : xs.length = n) (hx : ∀ j u, xs[j]? = some u → w.cell? ⟨g, o + j, none⟩ = some u) (ad : Addr) (m c : Nat) (hxx : a.eval x = .slice (some ad) 1 c) (ha : w.cell? ad = some (.int .u8 m)) (hlim : n + 1 ≤ 140737488355328)
    (h : ∀ v' w', w'.ownsRow w.heap.size 5 1 v' (n + 1) (xs ++ [.int .u8 m]) → Below w.heap.size w w' → wpList Try.prog ops Q rest (a.put o'.dst v') w') : wpList Try.prog ops Q (o' :: rest) a w :=
  wpList_plain hgd fun _ hK => by
    obtain ⟨v', w', hr, h2, h3⟩ := run_append_tight (w := w) o'.type g o n xs hl hx ad m ha hlim c
    unfold Oper.wp execOp
    simp only [ho, resolve, invoke, builtin, Sem.run_bind, Sem.run_pure, Result.andThen_ok, List.map_toArray, List.map_cons, List.map_nil, hs, hxx, hr]
    exact hK _ _ (h v' w' h2 h3)
/-- A piece, written over up to a place. -/
def Pm (w : World) (g o n k m : Nat) : Prop := ∃ cur, w.heap[g]? = some (.cells cur 5 (0, 0)) ∧ o + n ≤ cur.size ∧ ∀ j, j < k → cur[o + j]? = some (.int .u8 m)
theorem Pm.cell {w : World} {g o n k m j : Nat} (h : Pm w g o n k m) (hj : j < n) : (∃ u, w.cell? ⟨g, o + j, none⟩ = some u) ∧ w.frozen? ⟨g, o + j, none⟩ = false := by
  obtain ⟨cur, h1, h2, _⟩ := h
  refine ⟨⟨cur[o + j]'(by omega), ?_⟩, frozen_of_row w g _ _ 5 h1⟩
  rw [cell_of_row w g _ _ 5 (0, 0) h1, Array.getElem?_eq_getElem (by omega)]
theorem Pm.at {w : World} {g o n k m j : Nat} (h : Pm w g o n k m) (hj : j < k) : w.cell? ⟨g, o + j, none⟩ = some (.int .u8 m) := by
  obtain ⟨cur, h1, h2, h3⟩ := h
  rw [cell_of_row w g _ _ 5 (0, 0) h1]
  exact h3 j hj
theorem Pm.put {w : World} {g o n k m : Nat} (h : Pm w g o n k m) (hk : k < n) : Pm (w.setCell ⟨g, o + k, none⟩ (.int .u8 m)) g o n (k + 1) m := by
  obtain ⟨cur, h1, h2, h3⟩ := h
  refine ⟨_, heap_setCell_same w g (o + k) _ 5 _ h1, by simpa using h2, fun j hj => ?_⟩
  by_cases e : j = k
  · subst e
    rw [Array.getElem?_setIfInBounds_self_of_lt (by omega)]
  · have := h3 j (by omega)
    rw [Array.getElem?_setIfInBounds_ne (by omega)]
    exact this
theorem Pm.later {w w' : World} {g o n k m : Nat} (h : Pm w g o n k m) (hs : w'.heap[g]? = w.heap[g]?) : Pm w' g o n k m := by
  obtain ⟨cur, h1, h2⟩ := h
  exact ⟨cur, hs.trans h1, h2⟩
set_option maxHeartbeats 8000000 in
set_option maxRecDepth 100000 in
theorem keep_piece (B n g o : Nat) (vk : Value) (hs : List (Value × Nat)) (w : World) (hk : Kept w B vk hs) (hlen : hs.length ≤ 100000000) (hv : Pm w g o n 0 0) (hvk : vk.ownBlock ≠ some g) (hvs : ∀ h ∈ hs, h.1.ownBlock ≠ some g) (hB : B ≤ w.heap.size) (hn : n + 64 ≤ 140737488355328) :
    Calls Try.prog 14 #[vk, .slice (some ⟨g, o, none⟩) n n] w fun e w' => ∃ vk' c m, e = .returned vk' ∧ Kept w' B vk' (hs ++ [(.slice (some ⟨g, o, none⟩) n n, m), (c, m)]) ∧ (∀ q, c.ownBlock = some q → q = g ∨ w.heap.size ≤ q) ∧ (∀ q, vk'.ownBlock = some q → vk.ownBlock = some q ∨ w.heap.size ≤ q) ∧ Fr w w' (some g) vk.ownBlock := by
  obtain ⟨i0, hi, hz0, hz1, hz2⟩ := info_parts info53
  obtain ⟨i5, hi5, hy0, hy1, hy2⟩ := info_parts info5
  obtain ⟨aok, capk, rfl⟩ := own_len hk.1
  obtain ⟨m, hm⟩ : ∃ m, m = 3 + 5 * hs.length % 250 := ⟨_, rfl⟩
  have hm2 : m < 256 := by omega
  have hmi : (3 : Int) + 5 * (hs.length : Int) % 250 = (m : Int) := by omega
  have hgw : g < w.heap.size := by obtain ⟨cur, h1, _⟩ := hv; exact (Array.getElem?_eq_some_iff.1 h1).1
  have HV : Hid (Pm w g o n 0 m) := by
    obtain ⟨cur, h1, h2, _⟩ := hv
    exact ⟨cur, h1, h2, fun j hj => by omega⟩
  have HM := hide hm
  have HK := hide hk
  have HVS := hide hvs
  have HVK := hide hvk
  clear hm hk hv hvs hvk
  go_enter Try.func14, Try.ntmps14
  go_wp2_with fail
  clear hmi
  go_loopw [6] (fun i wr => ∃ k : Nat, k ≤ n ∧ i = .int .i64 k ∧ Hid (Pm wr g o n k m) ∧ Hid (w.grownBy wr (some g))) (fun i _ => n - (intOf i).toNat)
  case atStart => exact ⟨0, Nat.zero_le _, rfl, HV, ⟨rfl, rfl, rfl, Nat.le_refl _, fun _ _ _ => rfl⟩⟩
  case round =>
    obtain ⟨k, hk, rfl, HO, HG⟩ := hrel
    by_cases hlt : k < n
    · have e1 : (k : Int) < (n : Int) := by omega
      obtain ⟨⟨u, hcl⟩, hfz⟩ := HO.out.cell hlt
      go_wp2_with fail
      go_roundw
      case rel => exact ⟨k + 1, by omega, by go_num, HO.out.put hlt, grown_on HG.out (o + k) _⟩
      case measure => simp [intOf]; omega
    · have e1 : ¬ (k : Int) < (n : Int) := by omega
      obtain rfl : k = n := by omega
      have hok : wr.ownsRow B 53 2 (.slice aok hs.length capk) hs.length (flat hs) := HK.out.1.kept HG.out (by
        cases hb : (Value.slice aok hs.length capk).ownBlock with
        | none => exact .inl rfl
        | some q => exact .inr (fun e => HVK.out (by rw [hb, e])))
      have hsz := HG.out.size
      go_wp2_with (at_builtin; refine wpList_append_keep rfl _ _ 30 rfl B 53 i0 (.agg #[.slice none 0 0, .int .u8 0]) 2 32 Try.underlying30 hi hz0 hz1 hz2 rfl (by decide) _ _ _ rfl (hok.alloc _) ⟨wr.heap.size, 0, none⟩ 1 1 [.slice (some ⟨g, o, none⟩) k k, .int .u8 m] rfl rfl ?c1 ?c2 ?c3 ?c4 ?c5 ?_)
      case c2 => first | exact ⟨rfl, rfl⟩ | (intro u hu; simp at hu; rcases hu with rfl | rfl <;> rfl)
      case c3 => unfold maxLen; omega
      case c4 => omega
      case c5 => first | omega | (simp; omega)
      intro vk1 w2 hok2 hg2 hat2 _
      have hsa : (wr.alloc (.cells #[.slice (some ⟨g, o, none⟩) k k, .int .u8 m] 53)).heap.size = wr.heap.size + 1 := by simp
      have hs2 : wr.heap.size + 1 ≤ w2.heap.size := by have := hg2.size; omega
      have F2 : Fr w w2 (some g) (Value.slice aok hs.length capk).ownBlock := (((Fr.refl w _ _).grown HG.out (fun q _ e => .inl e.symm)).alloc _).grown hg2 (fun q _ e => .inr e.symm)
      have hvk1 : ∀ q, vk1.ownBlock = some q → (Value.slice aok hs.length capk).ownBlock = some q ∨ (w.heap.size ≤ q ∧ wr.heap.size ≤ q) := fun q hq => by
        rcases hat2 with h | h
        · exact .inl (h ▸ hq)
        · rw [hq] at h
          have := Option.some.inj h
          exact .inr (by omega)
      have hne1 : vk1.ownBlock ≠ some g := fun e => by
        rcases hvk1 g e with h | h
        · exact HVK.out h
        · omega
      have hP2 : Pm w2 g o k k m := HO.out.later ((hg2.block g (by omega) (fun e => HVK.out e.symm)).trans (heap_alloc_old wr _ (by omega)))
      have HP2 := hide hP2
      have HOK2 := hide hok2
      have HF2 := hide F2
      have HVK1 := hide hvk1
      have HNE1 := hide hne1
      obtain ⟨aok1, capk1, rfl⟩ := own_len hok2
      clear hok hok2 hg2 hat2 F2 hvk1 hne1 hsa hP2 HO
      go_wp2_with fail
      go_loopw [7, 8] (fun vc i w3 => ∃ q : Nat, q ≤ 64 ∧ i = .int .i64 q ∧ Hid (Below w2.heap.size w2 w3) ∧ ((q = 0 ∧ vc = .slice (some ⟨g, o, none⟩) k k) ∨ (0 < q ∧ Hid (w3.ownsRow w2.heap.size 5 1 vc (k + q) (List.replicate (k + q) (Value.int .u8 m)))))) (fun _ i _ => 64 - (intOf i).toNat)
      case atStart => exact ⟨0, by omega, rfl, Below.refl _ _, .inl ⟨rfl, rfl⟩⟩
      case round =>
        obtain ⟨q, hq, rfl, HB3, hcase⟩ := hrel
        have hszb := HB3.out.size
        have hsw := HF2.out.2.2.2.1
        have hP3 : Pm wr g o k k m := HP2.out.later (HB3.out.block g (by omega))
        have HP3 := hide hP3
        clear hP3
        by_cases hlt : q < 64
        · have e1 : (q : Int) < 64 := by omega
          rcases hcase with ⟨rfl, rfl⟩ | ⟨hq0, HC⟩
          · go_wp2_with (at_builtin; refine wpList_append_tight _ rfl _ _ rfl g o k rfl (List.replicate k (Value.int .u8 m)) (by simp) ?b1 ⟨wr.heap.size, 0, none⟩ m 1 rfl ?b2 (by omega) ?_)
            case b1 =>
              intro j u hj
              have hjk : j < k := by
                have := List.getElem?_eq_some_iff.1 hj
                obtain ⟨h, _⟩ := this
                simpa using h
              have hu : u = .int .u8 m := by
                rw [List.getElem?_replicate, if_pos hjk] at hj
                exact (Option.some.inj hj).symm
              subst hu
              have hc0 := HP3.out.at hjk
              exact (World.cell?_of_block (heap_alloc_old wr _ (World.block_lt_of_cell? wr _ hc0))).trans hc0
            case b2 => simp
            intro vc' w6 hoc hbc
            have hsa : (wr.alloc (.cells #[.int .u8 m] 5)).heap.size = wr.heap.size + 1 := by simp
            have hal : Below wr.heap.size wr (wr.alloc (.cells #[.int .u8 m] 5)) := (Below.refl _ wr).alloc (Nat.le_refl _) _
            obtain ⟨aoc', capc', rfl⟩ := own_len hoc
            have HOC := hide hoc
            have HB6 := hide ((HB3.out.trans (hal.mono hszb)).trans (hbc.mono (by omega)))
            clear hoc hbc hal hsa
            go_wp2_with fail
            go_roundw
            case rel =>
              refine ⟨1, by omega, by go_num, HB6, .inr ⟨by omega, ?_⟩⟩
              have := own_lower HOC.out (B' := w2.heap.size) (by have h := World.size_alloc wr (.cells #[.int .u8 m] 5); omega)
              rw [← List.replicate_succ' (n := k)] at this
              exact this
            case measure => simp [intOf]
          · obtain ⟨aoc, capc, rfl⟩ := own_len HC.out
            go_wp2_with (at_builtin; refine wpList_append_keep rfl _ _ 22 rfl w2.heap.size 5 i5 (.int .u8 0) 1 1 Try.underlying22 hi5 hy0 hy1 hy2 rfl (by decide) _ _ _ rfl (HC.out.alloc _) ⟨wr.heap.size, 0, none⟩ 1 1 [.int .u8 m] rfl rfl ?b1 ?b2 ?b3 ?b4 ?b5 ?_)
            case b1 =>
              intro j u hj
              match j, hj with
              | 0, hj => simp at hj; subst hj; simp [Addr.add]
            case b2 => first | rfl | (intro u hu; simp at hu; subst hu; rfl) | simp [Value.oneCell']
            case b3 => unfold maxLen; omega
            case b4 => omega
            case b5 => first | omega | (simp; omega)
            intro vc' w6 hoc hgc hatc _
            have hal : Below w2.heap.size wr (wr.alloc (.cells #[.int .u8 m] 5)) := (Below.refl _ wr).alloc hszb _
            obtain ⟨aoc', capc', rfl⟩ := own_len hoc
            have HOC := hide hoc
            have HB6 := hide ((HB3.out.trans hal).grown hgc (by have h := World.size_alloc wr (.cells #[.int .u8 m] 5); omega) (fun q e => (HC.out.lt q e).1))
            clear hoc hgc hatc hal
            go_wp2_with fail
            go_roundw
            case rel =>
              refine ⟨q + 1, by omega, by go_num, HB6, .inr ⟨by omega, ?_⟩⟩
              have := HOC.out
              rw [← List.replicate_succ' (n := k + q)] at this
              exact this
            case measure => simp [intOf]; omega
        · have e1 : ¬ (q : Int) < 64 := by omega
          obtain rfl : q = 64 := by omega
          rcases hcase with ⟨h0, _⟩ | ⟨_, HC⟩
          · omega
          obtain ⟨aoc, capc, rfl⟩ := own_len HC.out
          have hok3 : wr.ownsRow B 53 2 (.slice aok1 (hs.length + 1) capk1) (hs.length + 1) (flat hs ++ [.slice (some ⟨g, o, none⟩) k k, .int .u8 m]) := HOK2.out.kept (grown_later HB3.out) (by cases (Value.slice aok1 (hs.length + 1) capk1).ownBlock <;> simp)
          go_wp2_with (at_builtin; refine wpList_append_keep rfl _ _ 30 rfl B 53 i0 (.agg #[.slice none 0 0, .int .u8 0]) 2 32 Try.underlying30 hi hz0 hz1 hz2 rfl (by decide) _ _ _ rfl (hok3.alloc _) ⟨wr.heap.size, 0, none⟩ 1 1 [.slice aoc (k + 64) capc, .int .u8 m] rfl rfl ?d1 ?d2 ?d3 ?d4 ?d5 ?_)
          case d2 => first | exact ⟨rfl, rfl⟩ | (intro u hu; simp at hu; rcases hu with rfl | rfl <;> rfl)
          case d3 => unfold maxLen; omega
          case d4 => omega
          case d5 => first | omega | (simp; omega)
          intro vk4 w5 hok5 hg5 hat5 _
          have HOK5 := hide hok5
          have HG5 := hide hg5
          have HAT5 := hide hat5
          clear hok5 hg5 hat5 hok3
          go_wp2_with fail
          go_ret
          have F3 : Fr w wr (some g) (Value.slice aok hs.length capk).ownBlock := HF2.out.grown (grown_later HB3.out) (fun _ _ e => by cases e)
          have hsw3 := F3.2.2.2.1
          have hsa : (wr.alloc (.cells #[.slice aoc (k + 64) capc, .int .u8 m] 53)).heap.size = wr.heap.size + 1 := by simp
          have hs5 : wr.heap.size + 1 ≤ w5.heap.size := by have := HG5.out.size; omega
          have F5 : Fr w w5 (some g) (Value.slice aok hs.length capk).ownBlock := (F3.alloc _).grown HG5.out (fun x hx e => by
            rcases HVK1.out x e with h | h
            · exact .inr h.symm
            · omega)
          have hk4 : ∀ q, vk4.ownBlock = some q → (Value.slice aok1 (hs.length + 1) capk1).ownBlock = some q ∨ q = wr.heap.size + 1 := fun q hq => by
            rcases HAT5.out with h | h
            · exact .inl (h ▸ hq)
            · rw [hq] at h
              have := Option.some.inj h
              exact .inr (by omega)
          have hkk : ∀ q, vk4.ownBlock = some q → (Value.slice aok hs.length capk).ownBlock = some q ∨ w.heap.size ≤ q := fun q hq => by
            rcases hk4 q hq with h | h
            · rcases HVK1.out q h with h | h
              · exact .inl h
              · exact .inr h.1
            · exact .inr (by omega)
          have hw2k : ∀ q, (Value.slice aok1 (hs.length + 1) capk1).ownBlock = some q → q < w2.heap.size := fun q hq => (HOK2.out.lt q hq).2
          have hcl2 : ∀ q, (Value.slice aoc (k + 64) capc).ownBlock = some q → w2.heap.size ≤ q ∧ q < wr.heap.size := fun q hq => HC.out.lt q hq
          refine ⟨vk4, .slice aoc (k + 64) capc, m, rfl, ⟨?_, ?_⟩, ?_, hkk, F5⟩
          · have := HOK5.out
            rw [flat_append, List.length_append]
            simpa [flat] using this
          · intro h hh
            rw [List.mem_append] at hh
            rcases hh with hh | hh
            · obtain ⟨a1, a2, a3, a4⟩ := HK.out.2 h hh
              refine ⟨a1.same (fun q hq hlt => F5.2.2.2.2 q hlt (fun e => HVS.out h hh (by rw [hq, e])) (fun e => a3 q hq e.symm)), a2, fun q h1 h2 => ?_, fun q hq => by have := a4 q hq; omega⟩
              rcases hkk q h2 with h | h
              · exact a3 q h1 h
              · have := a4 q h1
                omega
            · simp only [List.mem_cons, List.not_mem_nil, or_false] at hh
              rcases hh with rfl | rfl
              · refine ⟨⟨_, k, k, rfl, Nat.le_refl _, by unfold maxLen; omega, fun j hj => ⟨g, o, rfl, ?_⟩⟩, hm2, fun q h1 h2 => ?_, fun q hq => ?_⟩
                · have hc0 := HP3.out.at hj
                  have hc1 : (wr.alloc (.cells #[.slice aoc (k + 64) capc, .int .u8 m] 53)).cell? ⟨g, o + j, none⟩ = some (.int .u8 m) := (World.cell?_of_block (heap_alloc_old wr _ (World.block_lt_of_cell? wr _ hc0))).trans hc0
                  exact HG5.out.cell hc1 (fun e => HNE1.out e.symm)
                · simp only [Value.ownBlock, Option.some.injEq] at h1
                  subst h1
                  rcases hk4 _ h2 with h | h
                  · exact HNE1.out h
                  · omega
                · simp only [Value.ownBlock, Option.some.injEq] at hq
                  omega
              · refine ⟨hd_own ((HC.out.alloc _).kept HG5.out ?_), hm2, fun q h1 h2 => ?_, fun q hq => by have := hcl2 q hq; omega⟩
                · cases hb : (Value.slice aoc (k + 64) capc).ownBlock with
                  | none => exact .inl rfl
                  | some x => exact .inr (fun e => by have := hcl2 x hb; have := hw2k x e.symm; omega)
                · have h3 := hcl2 q h1
                  rcases hk4 q h2 with h | h
                  · have := hw2k q h
                    omega
                  · omega
          · intro q hq
            have := hcl2 q hq
            exact .inr (by omega)
end Go.Proofs.Ytkohlhnkaklnpaa
