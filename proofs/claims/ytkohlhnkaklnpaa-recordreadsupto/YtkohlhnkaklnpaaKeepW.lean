/-
  The law's keep: bytes are their owner's, who writes over them, and behind them.
-/
import Derived.Test.YtkohlhnkaklnpaaHold
namespace Go.Proofs.Ytkohlhnkaklnpaa
open Go.RowKit
theorem full_step (xs : List Value) (m : Nat) {k : Nat} (h : k < xs.length) : (List.replicate k (Value.int .u8 m) ++ xs.drop k).set k (.int .u8 m) = List.replicate (k + 1) (Value.int .u8 m) ++ xs.drop (k + 1) := by
  rw [List.set_append_right _ _ (by simp), List.length_replicate, Nat.sub_self, List.drop_eq_getElem_cons h, List.set_cons_zero, List.replicate_succ', List.append_assoc]
  rfl
theorem grown_on {w wr : World} {g : Nat} (h : w.grownBy wr (some g)) (k : Nat) (u : Value) : w.grownBy (wr.setCell ⟨g, k, none⟩ u) (some g) :=
  ⟨h.1, h.2, h.3, by simpa using h.size, fun q hq hne => (heap_setCell_other wr ⟨g, k, none⟩ q u (fun e => hne (by rw [e]))).trans (h.block q hq hne)⟩

theorem Fr.next {w w2 w3 : World} {a b : Option Nat} (h : Fr w w2 a b) (h2 : Fr w2 w3 a none) : Fr w w3 a b :=
  ⟨h2.1.trans h.1, h2.2.1.trans h.2.1, h2.2.2.1.trans h.2.2.1, Nat.le_trans h.2.2.2.1 h2.2.2.2.1, fun k hk h1 hb => (h2.2.2.2.2 k (Nat.lt_of_lt_of_le hk h.2.2.2.1) h1 (by simp)).trans (h.2.2.2.2 k hk h1 hb)⟩
theorem hd_own {w : World} {B n m : Nat} {v : Value} (h : w.ownsRow B 5 1 v n (List.replicate n (Value.int .u8 m))) : Hd w v m := by
  rcases h.2 with ⟨rfl, rfl⟩ | ⟨g, cap, cur, rfl, hb, hg, h1, h2, _⟩
  · exact ⟨none, 0, 0, rfl, Nat.le_refl _, Nat.zero_le _, fun k hk => by omega⟩
  · refine ⟨_, n, cap, rfl, h1, h2, fun k hk => ⟨g, 0, rfl, ?_⟩⟩
    rw [Nat.zero_add, h.cellAt k (by omega)]
    simp [hk]

set_option maxHeartbeats 8000000 in
set_option maxRecDepth 100000 in
theorem keep_any (B Bv n : Nat) (vk v : Value) (hs : List (Value × Nat)) (xs : List Value) (w : World) (hk : Kept w B vk hs) (hlen : hs.length ≤ 100000000) (hv : w.ownsRow Bv 5 1 v n xs) (hvk : Ap v vk) (hvs : ∀ h ∈ hs, Ap h.1 v) (hB : B ≤ w.heap.size) (hBv : Bv ≤ w.heap.size) (hn : n + 64 ≤ 140737488355328) :
    Calls Try.prog 14 #[vk, v] w fun e w' => ∃ vk' c m, e = .returned vk' ∧ Kept w' B vk' (hs ++ [(v, m), (c, m)]) ∧ (∀ g, c.ownBlock = some g → v.ownBlock = some g ∨ w.heap.size ≤ g) ∧ (∀ g, vk'.ownBlock = some g → vk.ownBlock = some g ∨ w.heap.size ≤ g) ∧ Fr w w' v.ownBlock vk.ownBlock := by
  obtain ⟨i0, hi, hz0, hz1, hz2⟩ := info_parts info53
  obtain ⟨i5, hi5, hy0, hy1, hy2⟩ := info_parts info5
  obtain ⟨ao, cap, rfl⟩ := own_len hv
  obtain ⟨aok, capk, rfl⟩ := own_len hk.1
  have hcap : n ≤ cap ∧ cap ≤ 9223372036854775807 := by
    rcases hv.2 with ⟨e, rfl⟩ | ⟨g, c', cur, e, _, _, h1, h2, _⟩
    · simp only [Value.slice.injEq] at e
      obtain ⟨_, _, rfl⟩ := e
      exact ⟨Nat.le_refl _, by omega⟩
    · simp only [Value.slice.injEq] at e
      obtain ⟨_, _, rfl⟩ := e
      unfold maxLen at h2
      exact ⟨h1, by omega⟩
  obtain ⟨m, hm⟩ : ∃ m, m = 3 + 5 * hs.length % 250 := ⟨_, rfl⟩
  have hm2 : m < 256 := by omega
  have hmi : (3 : Int) + 5 * (hs.length : Int) % 250 = (m : Int) := by omega
  have HM := hide hm
  have HK := hide hk
  have HV := hide hv
  have HVS := hide hvs
  have HVK := hide hvk
  have hxl : xs.length = n := by have := hv.1; omega
  clear hm hk hv hvs hvk
  go_enter Try.func14, Try.ntmps14
  go_wp2_with fail
  clear hmi
  go_loopw [6] (fun i wr => ∃ k : Nat, k ≤ n ∧ i = .int .i64 k ∧ Hid (wr.ownsRow Bv 5 1 (.slice ao n cap) n (List.replicate k (Value.int .u8 m) ++ xs.drop k)) ∧ Hid (w.grownBy wr (Value.slice ao n cap).ownBlock)) (fun i _ => n - (intOf i).toNat)
  case atStart => exact ⟨0, Nat.zero_le _, rfl, by simpa [Hid] using HV.out, ⟨rfl, rfl, rfl, Nat.le_refl _, fun _ _ _ => rfl⟩⟩
  case round =>
    obtain ⟨k, hk, rfl, HO, HG⟩ := hrel
    by_cases hlt : k < n
    · obtain ⟨g, rfl⟩ : ∃ g, ao = some ⟨g, 0, none⟩ := by
        rcases HO.out.2 with ⟨_, e⟩ | ⟨g, c', cur, e, _⟩
        · omega
        · simp only [Value.slice.injEq] at e
          exact ⟨g, e.1⟩
      have e1 : (k : Int) < (n : Int) := by omega
      have hcl := HO.out.cellAt k (by omega)
      rw [List.getElem?_append_right (by simp), List.length_replicate, Nat.sub_self, List.getElem?_drop, Nat.add_zero, List.getElem?_eq_getElem (by omega)] at hcl
      have hfz := HO.out.frozenAt k
      go_wp2_with fail
      go_roundw
      case rel =>
        refine ⟨k + 1, by omega, by go_num, ?_, grown_on HG.out k _⟩
        have := (HO.out.stored k (.int .u8 m)).1
        rw [full_step xs m (by omega)] at this
        exact this
      case measure => simp [intOf]; omega
    · have e1 : ¬ (k : Int) < (n : Int) := by omega
      obtain rfl : k = n := by omega
      have ho := HO.out
      rw [List.drop_eq_nil_of_le (by omega), List.append_nil] at ho
      have HO1 := hide ho
      have hok : wr.ownsRow B 53 2 (.slice aok hs.length capk) hs.length (flat hs) := HK.out.1.kept HG.out (by
        cases hb : (Value.slice aok hs.length capk).ownBlock with
        | none => exact .inl rfl
        | some q => exact .inr (fun e => HVK.out q e.symm hb))
      have hsz := HG.out.size
      clear HO
      go_wp2_with (at_builtin; refine wpList_append_keep rfl _ _ 30 rfl B 53 i0 (.agg #[.slice none 0 0, .int .u8 0]) 2 32 Try.underlying30 hi hz0 hz1 hz2 rfl (by decide) _ _ _ rfl (hok.alloc _) ⟨wr.heap.size, 0, none⟩ 1 1 [.slice ao k cap, .int .u8 m] rfl rfl ?c1 ?c2 ?c3 ?c4 ?c5 ?_)
      case c2 => exact ⟨rfl, rfl⟩
      case c3 => unfold maxLen; omega
      case c4 => omega
      case c5 => omega
      intro vk1 w2 hok2 hg2 hat2 _
      have F0 : Fr w wr (Value.slice ao k cap).ownBlock (Value.slice aok hs.length capk).ownBlock := (Fr.refl w _ _).grown HG.out (fun q _ e => .inl e.symm)
      have F2 : Fr w w2 (Value.slice ao k cap).ownBlock (Value.slice aok hs.length capk).ownBlock := (F0.alloc _).grown hg2 (fun q _ e => .inr e.symm)
      have hsa : (wr.alloc (.cells #[.slice ao k cap, .int .u8 m] 53)).heap.size = wr.heap.size + 1 := by simp
      have hs2 : wr.heap.size + 1 ≤ w2.heap.size := by have := hg2.size; omega
      have hvlt : ∀ g, (Value.slice ao k cap).ownBlock = some g → g < w.heap.size := fun g hg => (HV.out.lt g hg).2
      have hvk1 : ∀ g, vk1.ownBlock = some g → (Value.slice aok hs.length capk).ownBlock = some g ∨ w.heap.size ≤ g := fun g hg => by
        rcases hat2 with h | h
        · exact .inl (h ▸ hg)
        · rw [hg] at h
          have := Option.some.inj h
          exact .inr (by omega)
      have hvap : ∀ g, (Value.slice ao k cap).ownBlock = some g → vk1.ownBlock = some g → False := fun g h1 h2 => by
        rcases hvk1 g h2 with h | h
        · exact HVK.out g h1 h
        · have := hvlt g h1
          omega
      have ho2 : w2.ownsRow Bv 5 1 (.slice ao k cap) k (List.replicate k (Value.int .u8 m)) := (HO1.out.alloc _).kept hg2 (by
        cases hb : (Value.slice ao k cap).ownBlock with
        | none => exact .inl rfl
        | some q => exact .inr (fun e => HVK.out q hb e.symm))
      have HOK2 := hide hok2
      have HF2 := hide F2
      have HO2 := hide ho2
      have HVK1 := hide hvk1
      have HVAP := hide hvap
      have HVLT := hide hvlt
      clear hok hok2 hg2 hat2 F0 F2 ho2 HO1 hvk1 hvap hsa hvlt HG
      obtain ⟨aok1, capk1, rfl⟩ := own_len HOK2.out
      go_wp2_with fail
      go_loopw [7, 8] (fun vc i w3 => ∃ q : Nat, q ≤ 64 ∧ i = .int .i64 q ∧ Hid (w3.ownsRow Bv 5 1 vc (k + q) (List.replicate (k + q) (Value.int .u8 m))) ∧ Hid (∀ g j, (Value.slice ao k cap).ownBlock = some g → j < k → w3.cell? ⟨g, j, none⟩ = some (.int .u8 m)) ∧ Hid (∀ g, vc.ownBlock = some g → (Value.slice ao k cap).ownBlock = some g ∨ w2.heap.size ≤ g) ∧ Hid (Fr w2 w3 (Value.slice ao k cap).ownBlock none)) (fun _ i _ => 64 - (intOf i).toNat)
      case atStart =>
        refine ⟨0, by omega, rfl, HO2.out, fun g j hg hj => ?_, fun g hg => .inl hg, Fr.refl _ _ _⟩
        obtain ⟨g', rfl⟩ : ∃ g', ao = some ⟨g', 0, none⟩ := by
          rcases HO2.out.2 with ⟨_, e⟩ | ⟨g, c', cur, e, _⟩
          · omega
          · simp only [Value.slice.injEq] at e
            exact ⟨g, e.1⟩
        simp only [Value.ownBlock, Option.some.injEq] at hg
        subst hg
        rw [HO2.out.cellAt j (by omega)]
        simp [hj]
      case round =>
        obtain ⟨q, hq, rfl, HC, HVR, HCL, HF⟩ := hrel
        have hszf := HF.out.2.2.2.1
        have hsw := HF2.out.2.2.2.1
        obtain ⟨aoc, capc, rfl⟩ := own_len HC.out
        by_cases hlt : q < 64
        · have e1 : (q : Int) < 64 := by omega
          go_wp2_with (at_builtin; refine wpList_append_keep rfl _ _ 22 rfl Bv 5 i5 (.int .u8 0) 1 1 Try.underlying22 hi5 hy0 hy1 hy2 rfl (by decide) _ _ _ rfl (HC.out.alloc _) ⟨wr.heap.size, 0, none⟩ 1 1 [.int .u8 m] rfl rfl ?b1 ?b2 ?b3 ?b4 ?b5 ?_)
          case b1 =>
            intro j u hj
            match j, hj with
            | 0, hj => simp at hj; subst hj; simp [Addr.add]
          case b2 => first | rfl | (intro u hu; simp at hu; subst hu; rfl) | simp [Value.oneCell']
          case b3 => unfold maxLen; omega
          case b4 => omega
          case b5 => simp; omega
          intro vc' w4 hoc hgc hatc hkc
          have hsa : (wr.alloc (.cells #[.int .u8 m] 5)).heap.size = wr.heap.size + 1 := by simp
          obtain ⟨aoc', capc', rfl⟩ := own_len hoc
          have HOC := hide hoc
          have HGC := hide hgc
          have HATC := hide hatc
          have HKC := hide hkc
          have HSA := hide hsa
          clear hoc hgc hatc hkc hsa
          go_wp2_with fail
          go_roundw
          case rel =>
            refine ⟨q + 1, by omega, by go_num, ?_, ?_, ?_, ?_⟩
            · have := HOC.out
              rw [← List.replicate_succ' (n := k + q)] at this
              exact this
            · intro g j hg hj
              have hc0 := HVR.out g j hg hj
              have hlt0 := World.block_lt_of_cell? wr _ hc0
              have hc1 : (wr.alloc (.cells #[.int .u8 m] 5)).cell? ⟨g, j, none⟩ = some (.int .u8 m) := (World.cell?_of_block (heap_alloc_old wr _ hlt0)).trans hc0
              by_cases hcb : (Value.slice aoc (k + q) capc).ownBlock = some g
              · exact (HKC.out g j hcb (by omega)).trans hc1
              · exact HGC.out.cell hc1 (fun e => hcb e.symm)
            · intro g hg
              rcases HATC.out with h | h
              · exact HCL.out g (h ▸ hg)
              · rw [hg] at h
                have := Option.some.inj h
                have := HSA.out
                exact .inr (by omega)
            · exact (HF.out.alloc _).grown HGC.out (fun x hx e => by
                rcases HCL.out x e with h | h
                · exact .inl h.symm
                · omega)
          case measure => simp [intOf]; omega
        · have e1 : ¬ (q : Int) < 64 := by omega
          obtain rfl : q = 64 := by omega
          have hwk : ∀ g, (Value.slice aok1 (hs.length + 1) capk1).ownBlock = some g → g < w2.heap.size := fun g hg => (HOK2.out.lt g hg).2
          have hok3 : wr.ownsRow B 53 2 (.slice aok1 (hs.length + 1) capk1) (hs.length + 1) (flat hs ++ [.slice ao k cap, .int .u8 m]) := HF.out.own (x := .slice none 0 0) HOK2.out (fun g h1 h2 => HVAP.out g h2 h1) (fun g _ h2 => by simp [Value.ownBlock] at h2)
          go_wp2_with (at_builtin; refine wpList_append_keep rfl _ _ 30 rfl B 53 i0 (.agg #[.slice none 0 0, .int .u8 0]) 2 32 Try.underlying30 hi hz0 hz1 hz2 rfl (by decide) _ _ _ rfl (hok3.alloc _) ⟨wr.heap.size, 0, none⟩ 1 1 [.slice aoc (k + 64) capc, .int .u8 m] rfl rfl ?d1 ?d2 ?d3 ?d4 ?d5 ?_)
          case d2 => exact ⟨rfl, rfl⟩
          case d3 => unfold maxLen; omega
          case d4 => omega
          case d5 => omega
          intro vk4 w5 hok5 hg5 hat5 _
          have HOK5 := hide hok5
          have HG5 := hide hg5
          have HAT5 := hide hat5
          clear hok5 hg5 hat5 hok3
          go_wp2_with fail
          go_ret
          have F3 := HF2.out.next HF.out
          have hsw3 := F3.2.2.2.1
          have hsa : (wr.alloc (.cells #[.slice aoc (k + 64) capc, .int .u8 m] 53)).heap.size = wr.heap.size + 1 := by simp
          have hs5 : wr.heap.size + 1 ≤ w5.heap.size := by have := HG5.out.size; omega
          have F5 : Fr w w5 (Value.slice ao k cap).ownBlock (Value.slice aok hs.length capk).ownBlock := (F3.alloc _).grown HG5.out (fun x hx e => by
            rcases HVK1.out x e with h | h
            · exact .inr h.symm
            · omega)
          have hk4 : ∀ g, vk4.ownBlock = some g → (Value.slice aok1 (hs.length + 1) capk1).ownBlock = some g ∨ g = wr.heap.size + 1 := fun g hg => by
            rcases HAT5.out with h | h
            · exact .inl (h ▸ hg)
            · rw [hg] at h
              have := Option.some.inj h
              exact .inr (by omega)
          have hkk : ∀ g, vk4.ownBlock = some g → (Value.slice aok hs.length capk).ownBlock = some g ∨ w.heap.size ≤ g := fun g hg => by
            rcases hk4 g hg with h | h
            · exact HVK1.out g h
            · exact .inr (by omega)
          have hcl2 : ∀ g, (Value.slice aoc (k + 64) capc).ownBlock = some g → g < wr.heap.size := fun g hg => (HC.out.lt g hg).2
          have hcw : ∀ g, (Value.slice aoc (k + 64) capc).ownBlock = some g → (Value.slice aok1 (hs.length + 1) capk1).ownBlock = some g → False := fun g h1 h2 => by
            rcases HCL.out g h1 with h | h
            · exact HVAP.out g h h2
            · have := hwk g h2
              omega
          refine ⟨vk4, .slice aoc (k + 64) capc, m, rfl, ⟨?_, ?_⟩, ?_, hkk, F5⟩
          · have := HOK5.out
            rw [flat_append, List.length_append]
            simpa [flat] using this
          · intro h hh
            rw [List.mem_append] at hh
            rcases hh with hh | hh
            · obtain ⟨a1, a2, a3, a4⟩ := HK.out.2 h hh
              refine ⟨F5.hd a1 (HVS.out h hh) a3, a2, fun g h1 h2 => ?_, fun g hg => by have := a4 g hg; omega⟩
              rcases hkk g h2 with h | h
              · exact a3 g h1 h
              · have := a4 g h1
                omega
            · simp only [List.mem_cons, List.not_mem_nil, or_false] at hh
              rcases hh with rfl | rfl
              · refine ⟨⟨ao, k, cap, rfl, hcap.1, by unfold maxLen; omega, fun j hj => ?_⟩, hm2, fun g h1 h2 => ?_, fun g hg => by have := HVLT.out g hg; omega⟩
                · obtain ⟨g', rfl⟩ : ∃ g', ao = some ⟨g', 0, none⟩ := by
                    rcases HV.out.2 with ⟨_, e⟩ | ⟨g, c', cur, e, _⟩
                    · omega
                    · simp only [Value.slice.injEq] at e
                      exact ⟨g, e.1⟩
                  refine ⟨g', 0, rfl, ?_⟩
                  rw [Nat.zero_add]
                  have hc0 := HVR.out g' j rfl hj
                  have hc1 : (wr.alloc (.cells #[.slice aoc (k + 64) capc, .int .u8 m] 53)).cell? ⟨g', j, none⟩ = some (.int .u8 m) := (World.cell?_of_block (heap_alloc_old wr _ (World.block_lt_of_cell? wr _ hc0))).trans hc0
                  exact HG5.out.cell hc1 (fun e => HVAP.out g' rfl e.symm)
                · rcases hk4 g h2 with h | h
                  · exact HVAP.out g h1 h
                  · have := HVLT.out g h1
                    omega
              · refine ⟨hd_own ((HC.out.alloc _).kept HG5.out ?_), hm2, fun g h1 h2 => ?_, fun g hg => by have := hcl2 g hg; omega⟩
                · cases hb : (Value.slice aoc (k + 64) capc).ownBlock with
                  | none => exact .inl rfl
                  | some x => exact .inr (fun e => hcw x hb e.symm)
                · rcases hk4 g h2 with h | h
                  · exact hcw g h1 h
                  · have := hcl2 g h1
                    omega
          · intro g hg
            rcases HCL.out g hg with h | h
            · exact .inl h
            · exact .inr (by omega)
end Go.Proofs.Ytkohlhnkaklnpaa
