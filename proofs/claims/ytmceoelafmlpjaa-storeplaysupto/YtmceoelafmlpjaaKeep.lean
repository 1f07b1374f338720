/-
  The law's keep: bytes are their owner's, who writes over them, and behind them.
-/
import Derived.Test.YtmceoelafmlpjaaHold
namespace Go.Proofs.Ytmceoelafmlpjaa
open Go.RowKit
theorem full_step (xs : List Value) (m : Nat) {k : Nat} (h : k < xs.length) : (List.replicate k (Value.int .u8 m) ++ xs.drop k).set k (.int .u8 m) = List.replicate (k + 1) (Value.int .u8 m) ++ xs.drop (k + 1) := by
  rw [List.set_append_right _ _ (by simp), List.length_replicate, Nat.sub_self, List.drop_eq_getElem_cons h, List.set_cons_zero, List.replicate_succ', List.append_assoc]
  rfl
theorem hd_own {w : World} {B n m : Nat} {v : Value} (h : w.ownsRow B 5 1 v n (List.replicate n (Value.int .u8 m))) : Hd w v m := by
  rcases h.2 with ⟨rfl, rfl⟩ | ⟨g, cap, cur, rfl, hb, hg, h1, h2, _⟩
  · exact ⟨none, 0, 0, rfl, Nat.le_refl _, Nat.zero_le _, fun k hk => by omega⟩
  · refine ⟨_, n, cap, rfl, h1, h2, fun k hk => ⟨g, 0, rfl, ?_⟩⟩
    rw [Nat.zero_add, h.cellAt k (by omega)]
    simp [hk]
/-- What keep leaves. -/
def KpLeft (w w' : World) (B gp : Nat) (pa pb vk v : Value) (hs : List (Value × Nat)) : Prop :=
  ∃ vk' hs' lg', Kp w' B gp pa pb vk' hs' lg' ∧ hs'.length ≤ hs.length + 2 ∧ (∀ k, vk'.ownBlock = some k → vk.ownBlock = some k ∨ w.heap.size ≤ k) ∧ (∀ x ∈ hs', ∀ k, x.1.ownBlock = some k → (∃ y ∈ hs, y.1.ownBlock = some k) ∨ v.ownBlock = some k ∨ w.heap.size ≤ k) ∧ Mv w w' (fun k => k = gp ∨ v.ownBlock = some k ∨ vk.ownBlock = some k)
set_option maxHeartbeats 8000000 in
set_option maxRecDepth 100000 in
theorem keep_any {B Bv gp n : Nat} {pa pb vk v : Value} {hs : List (Value × Nat)} {lg : Int} {xs : List Value} (w : World) (hk : Kp w B gp pa pb vk hs lg) (hlen : hs.length ≤ 1000000) (hv : w.ownsRow Bv 5 1 v n xs) (hvk : Ap v vk) (hvs : ∀ h ∈ hs, Ap h.1 v) (hvp : v.ownBlock ≠ some gp) (hBv : Bv ≤ w.heap.size) (hn : n ≤ 1000000000) :
    Calls Try.prog 27 #[.pointer (some ⟨gp, 0, none⟩), v] w fun e w' => e = .returned (.tuple #[]) ∧ KpLeft w w' B gp pa pb vk v hs := by
  obtain ⟨i0, hi, hz0, hz1, hz2⟩ := info_parts info59
  obtain ⟨i5, hi5, hy0, hy1, hy2⟩ := info_parts info5
  have hB : B ≤ w.heap.size := Nat.le_trans hk.2.2.2.1 (Nat.le_of_lt hk.lt)
  have cp : w.cell? ⟨gp, 2, none⟩ = some vk := by rw [cell_of_row w gp _ _ 56 (0, 0) hk.1]; rfl
  obtain ⟨ao, cap, rfl⟩ := own_len hv
  obtain ⟨aok, capk, rfl⟩ := own_len hk.2.1
  obtain ⟨hcap1, hcap2⟩ := own_cap hv
  obtain ⟨m, hm⟩ : ∃ m, m = (50 + 41 * hs.length) % 256 := ⟨_, rfl⟩
  have hm2 : m < 256 := by omega
  have hmi : ((50 : Int) + 41 * (hs.length : Int)) % 256 = (m : Int) := by omega
  have hw1 : IntKind.i64.wrap (41 * (hs.length : Int)) = 41 * (hs.length : Int) := by rw [IntKind.wrap_i64]; omega
  have hw2 : IntKind.i64.wrap (50 + 41 * (hs.length : Int)) = 50 + 41 * (hs.length : Int) := by rw [IntKind.wrap_i64]; omega
  have hw3 : IntKind.u8.wrap (50 + 41 * (hs.length : Int)) = (m : Int) := by rw [IntKind.wrap_u8]; omega
  have hlg0 := hk.2.2.2.2.2.1
  have hlg4 := hk.2.2.2.2.2.2
  have hgp := hk.lt
  have hkgp := hk.2.2.2.2.1
  have HM := hide hm
  have HK := hide hk
  have HV := hide hv
  have HVS := hide hvs
  have HVK := hide hvk
  have HVP := hide hvp
  have HKP := hide hkgp
  have hxl : xs.length = n := by have := hv.1; omega
  clear hm hk hv hvs hvk hvp hkgp
  go_enter Try.func27, Try.ntmps27
  go_upto_block 0 with fail
  clear hmi hw1 hw2 hw3 cp
  go_cut [] (fun wx => Hid (wx.ownsRow Bv 5 1 (.slice ao n cap) n (List.replicate n (Value.int .u8 m))) ∧ Hid (w.grownBy wx (Value.slice ao n cap).ownBlock))
  case first =>
    go_wp2_with fail
    go_loopw [5] (fun i wr => ∃ k : Nat, k ≤ n ∧ i = .int .i64 k ∧ Hid (wr.ownsRow Bv 5 1 (.slice ao n cap) n (List.replicate k (Value.int .u8 m) ++ xs.drop k)) ∧ Hid (w.grownBy wr (Value.slice ao n cap).ownBlock)) (fun i _ => n - (intOf i).toNat)
    case atStart => exact ⟨0, Nat.zero_le _, rfl, by simpa [Hid] using HV.out, ⟨rfl, rfl, rfl, Nat.le_refl _, fun _ _ _ => rfl⟩⟩
    case round =>
      obtain ⟨k, hk, rfl, HO, HG⟩ := hrel
      by_cases hlt : k < n
      · obtain ⟨g, rfl⟩ : ∃ g, ao = some ⟨g, 0, none⟩ := by
          rcases HO.out.2 with ⟨_, e⟩ | ⟨g, c', cur, e, _⟩
          · omega
          · simp only [Value.slice.injEq] at e
            exact ⟨g, e.1⟩
        have e1 : (k : Int) < (n : Int) := by omega
        have hcl := HO.out.cellAt k (by omega)
        rw [List.getElem?_append_right (by simp), List.length_replicate, Nat.sub_self, List.getElem?_drop, Nat.add_zero, List.getElem?_eq_getElem (by omega)] at hcl
        have hfz := HO.out.frozenAt k
        go_wp2_with fail
        go_roundw
        case rel =>
          refine ⟨k + 1, by omega, by go_num, ?_, grown_put HG.out k _⟩
          have := (HO.out.stored k (.int .u8 m)).1
          rw [full_step xs m (by omega)] at this
          exact this
        case measure => simp [intOf]; omega
      · have e1 : ¬ (k : Int) < (n : Int) := by omega
        obtain rfl : k = n := by omega
        have ho := HO.out
        rw [List.drop_eq_nil_of_le (by omega), List.append_nil] at ho
        have HO1 := hide ho
        clear HO
        go_wp2_with fail
        go_meet
        exact ⟨HO1, HG⟩
  obtain ⟨HO1, HG1⟩ := hcut
  obtain ⟨w1, rfl⟩ : ∃ x, x = wc := ⟨_, rfl⟩
  have HP1 : Hid (w1.heap[gp]? = some (.cells #[pa, pb, .slice aok hs.length capk, .int .i64 lg] 56 (0, 0))) := (HG1.out.block gp hgp (fun e => HVP.out e.symm)).trans HK.out.1
  have HM1 : Hid (Mv w w1 (fun k => k = gp ∨ (Value.slice ao n cap).ownBlock = some k)) := (Mv.refl w _).grown HG1.out (fun k _ e => .inr e)
  have cl : w1.cell? ⟨gp, 3, none⟩ = some (.int .i64 lg) := by rw [cell_of_row w1 gp _ _ 56 (0, 0) HP1.out]; rfl
  have fl : w1.frozen? ⟨gp, 3, none⟩ = false := frozen_of_row w1 gp 3 _ 56 HP1.out
  go_upto_if 27 with fail
  go_cut [] (fun wx => ∃ lg' : Int, 0 ≤ lg' ∧ lg' ≤ 4 ∧ Hid (wx.ownsRow Bv 5 1 (.slice ao n cap) n (List.replicate n (Value.int .u8 m))) ∧ Hid (wx.heap[gp]? = some (.cells #[pa, pb, .slice aok hs.length capk, .int .i64 lg'] 56 (0, 0))) ∧ Hid (Mv w wx (fun k => k = gp ∨ (Value.slice ao n cap).ownBlock = some k)))
  case first =>
    have HRET : Hid (KpLeft w w1 B gp pa pb (.slice aok hs.length capk) (.slice ao n cap) hs) := by
      refine ⟨_, hs, lg, HK.out.frame HM1.out.2.2.2.1 (HP1.out.trans HK.out.1.symm) (fun k hk => HM1.out.2.2.2.2 k (HK.out.2.1.lt k hk).2 ?_) (fun x hx k hk => HM1.out.2.2.2.2 k ((HK.out.2.2.1 x hx).2.2.2 k hk).2 ?_), by omega, fun k hk => .inl hk, fun x hx k hk => .inl ⟨x, hx, hk⟩, HM1.out.mono (fun k _ e => by rcases e with e | e; exact .inl e; exact .inr (.inl e))⟩
      · rintro (rfl | e)
        · exact HKP.out hk
        · exact HVK.out k e hk
      · rintro (rfl | e)
        · exact ((HK.out.2.2.1 x hx).2.2.2 _ hk).1 rfl
        · exact HVS.out x hx k hk e
    by_cases h5 : (n : Int) > 5000
    · by_cases h100 : (n : Int) > 100000
      · go_wp2_with fail
        (try simp only [Exit.inBlock, Exit.then]); refine bodyPost_ret (results_none rfl _ _ _) rfl ?_
        exact ⟨rfl, HRET.out⟩
      · by_cases h4 : lg = 4
        · subst h4
          go_wp2_with fail
          (try simp only [Exit.inBlock, Exit.then]); refine bodyPost_ret (results_none rfl _ _ _) rfl ?_
          exact ⟨rfl, HRET.out⟩
        · have hne : (lg == 4) = false := by rw [beq_eq_false_iff_ne]; exact h4
          have hwl : IntKind.i64.wrap (lg + 1) = lg + 1 := by rw [IntKind.wrap_i64]; omega
          go_wp2_with fail
          go_meet
          refine ⟨lg + 1, by omega, by omega, HO1.out.kept (grown_set w1 gp 3 _) ?_, ?_, HM1.out.set (.inl rfl) _ _⟩
          · exact .inr (fun e => HVP.out e)
          · have := heap_setCell_same w1 gp 3 _ 56 (.int .i64 (lg + 1)) HP1.out
            exact this
    · go_wp2_with fail
      go_meet
      exact ⟨lg, hlg0, hlg4, HO1, HP1, HM1⟩
  obtain ⟨lg', hl0, hl4, HO2, HP2, HM2⟩ := hcut
  obtain ⟨w2, rfl⟩ : ∃ x, x = wc := ⟨_, rfl⟩
  clear HO1 HP1 HM1 HG1 cl fl
  have hok : w2.ownsRow B 59 2 (.slice aok hs.length capk) hs.length (flat hs) := HM2.out.own HK.out.2.1 (fun k hk e => by
    rcases e with rfl | e
    · exact HKP.out hk
    · exact HVK.out k e hk)
  have HOK := hide hok
  have hs2 := HM2.out.2.2.2.1
  have cp2 : w2.cell? ⟨gp, 2, none⟩ = some (.slice aok hs.length capk) := by rw [cell_of_row w2 gp _ _ 56 (0, 0) HP2.out]; rfl
  clear hok
  go_wp2_with (at_builtin; refine wpList_append_keep rfl _ _ 54 rfl B 59 i0 (.agg #[.slice none 0 0, .int .u8 0]) 2 32 Try.underlying54 hi hz0 hz1 hz2 rfl (by decide) _ _ _ rfl (HOK.out.alloc _) ⟨w2.heap.size, 0, none⟩ 1 1 [.slice ao n cap, .int .u8 m] rfl rfl ?c1 ?c2 ?c3 ?c4 ?c5 ?_)
  case c1 =>
    intro j u hj
    match j, hj with
    | 0, hj => simp at hj; subst hj; simp [Addr.add]
    | 1, hj => simp at hj; subst hj; simp [Addr.add]
  case c2 =>
    intro u hu
    simp at hu
    rcases hu with rfl | rfl <;> rfl
  case c3 => unfold maxLen; omega
  case c4 => omega
  case c5 => simp; omega
  intro vk1 w3 hok3 hg3 hat3 _
  have hsa : (w2.alloc (.cells #[.slice ao n cap, .int .u8 m] 59)).heap.size = w2.heap.size + 1 := by simp
  have hs3 : w2.heap.size + 1 ≤ w3.heap.size := by have := hg3.size; omega
  have hvk1 : ∀ g, vk1.ownBlock = some g → (Value.slice aok hs.length capk).ownBlock = some g ∨ (w2.heap.size ≤ g ∧ w.heap.size ≤ g) := fun g hg => by
    rcases hat3 with h | h
    · exact .inl (h ▸ hg)
    · rw [hg] at h
      have := Option.some.inj h
      exact .inr (by omega)
  have hvlt : ∀ g, (Value.slice ao n cap).ownBlock = some g → g < w.heap.size := fun g hg => (HV.out.lt g hg).2
  have hne1 : vk1.ownBlock ≠ some gp := fun e => by
    rcases hvk1 gp e with h | h
    · exact HKP.out h
    · omega
  have hvap : ∀ g, (Value.slice ao n cap).ownBlock = some g → vk1.ownBlock = some g → False := fun g h1 h2 => by
    rcases hvk1 g h2 with h | h
    · exact HVK.out g h1 h
    · have := hvlt g h1
      omega
  have hp3 : w3.heap[gp]? = some (.cells #[pa, pb, .slice aok hs.length capk, .int .i64 lg'] 56 (0, 0)) := (hg3.block gp (by omega) (fun e => HKP.out e.symm)).trans ((heap_alloc_old w2 _ (by omega)).trans HP2.out)
  have ho3 : w3.ownsRow Bv 5 1 (.slice ao n cap) n (List.replicate n (Value.int .u8 m)) := (HO2.out.alloc _).kept hg3 (by
    cases hb : (Value.slice ao n cap).ownBlock with
    | none => exact .inl rfl
    | some q => exact .inr (fun e => HVK.out q hb e.symm))
  have F3 : Mv w w3 (fun k => k = gp ∨ (Value.slice ao n cap).ownBlock = some k ∨ (Value.slice aok hs.length capk).ownBlock = some k) := ((HM2.out.mono (fun k _ e => by rcases e with e | e; exact .inl e; exact .inr (.inl e))).alloc _).grown hg3 (fun k _ e => .inr (.inr e))
  obtain ⟨aok1, capk1, rfl⟩ := own_len hok3
  have cp3 : w3.cell? ⟨gp, 2, none⟩ = some (.slice aok hs.length capk) := by rw [cell_of_row w3 gp _ _ 56 (0, 0) hp3]; rfl
  have fp3 : w3.frozen? ⟨gp, 2, none⟩ = false := frozen_of_row w3 gp 2 _ 56 hp3
  have hp4 : (w3.setCell ⟨gp, 2, none⟩ (.slice aok1 (hs.length + 1) capk1)).heap[gp]? = some (.cells #[pa, pb, .slice aok1 (hs.length + 1) capk1, .int .i64 lg'] 56 (0, 0)) := heap_setCell_same w3 gp 2 _ 56 _ hp3
  have ho4 := ho3.kept (grown_set w3 gp 2 (.slice aok1 (hs.length + 1) capk1)) (.inr HVP.out)
  have hok4 := hok3.kept (grown_set w3 gp 2 (.slice aok1 (hs.length + 1) capk1)) (.inr hne1)
  have F4 := F3.set (g := gp) (.inl rfl) 2 (.slice aok1 (hs.length + 1) capk1)
  have hs4 : w3.heap.size = (w3.setCell ⟨gp, 2, none⟩ (.slice aok1 (hs.length + 1) capk1)).heap.size := by simp
  have HS4 := hide hs4
  have HP4 := hide hp4
  have HO4 := hide ho4
  have HOK4 := hide hok4
  have HF4 := hide F4
  have HVK1 := hide hvk1
  have HVAP := hide hvap
  have HVLT := hide hvlt
  have HNE1 := hide hne1
  clear hok3 hg3 hat3 hp3 ho3 F3 hp4 ho4 hok4 F4 hvk1 hvap hvlt hne1 hs4 hsa HOK HO2 HP2 HM2 cp2
  go_upto_block 2 with fail
  clear cp3 fp3
  obtain ⟨w4, hw4⟩ : ∃ x, x = w3.setCell ⟨gp, 2, none⟩ (.slice aok1 (hs.length + 1) capk1) := ⟨_, rfl⟩
  rw [← hw4] at HS4 HP4 HO4 HOK4 HF4 ⊢
  have hs4 := HS4.out
  clear hw4 HS4
  go_cut [1] (fun vc w5 => Hid (w5.ownsRow Bv 5 1 vc (n + 64) (List.replicate (n + 64) (Value.int .u8 m))) ∧ Hid (∀ g j, (Value.slice ao n cap).ownBlock = some g → j < n → w5.cell? ⟨g, j, none⟩ = some (.int .u8 m)) ∧ Hid (∀ g, vc.ownBlock = some g → (Value.slice ao n cap).ownBlock = some g ∨ w4.heap.size ≤ g) ∧ Hid (Mv w4 w5 (fun k => (Value.slice ao n cap).ownBlock = some k)))
  case first =>
    go_wp2_with fail
    go_loopw [1, 6] (fun vc i w5 => ∃ q : Nat, q ≤ 64 ∧ i = .int .i64 q ∧ Hid (w5.ownsRow Bv 5 1 vc (n + q) (List.replicate (n + q) (Value.int .u8 m))) ∧ Hid (∀ g j, (Value.slice ao n cap).ownBlock = some g → j < n → w5.cell? ⟨g, j, none⟩ = some (.int .u8 m)) ∧ Hid (∀ g, vc.ownBlock = some g → (Value.slice ao n cap).ownBlock = some g ∨ w4.heap.size ≤ g) ∧ Hid (Mv w4 w5 (fun k => (Value.slice ao n cap).ownBlock = some k))) (fun _ i _ => 64 - (intOf i).toNat)
    case atStart =>
      refine ⟨0, by omega, rfl, HO4, fun g j hg hj => ?_, fun g hg => .inl hg, Mv.refl _ _⟩
      obtain ⟨g', rfl⟩ : ∃ g', ao = some ⟨g', 0, none⟩ := by
        rcases HO4.out.2 with ⟨_, e⟩ | ⟨g, c', cur, e, _⟩
        · omega
        · simp only [Value.slice.injEq] at e
          exact ⟨g, e.1⟩
      simp only [Value.ownBlock, Option.some.injEq] at hg
      subst hg
      rw [HO4.out.cellAt j (by omega)]
      simp [hj]
    case round =>
      obtain ⟨q, hq, rfl, HC, HVR, HCL, HF⟩ := hrel
      have hszf := HF.out.2.2.2.1
      have hsw := HF4.out.2.2.2.1
      obtain ⟨aoc, capc, rfl⟩ := own_len HC.out
      by_cases hlt : q < 64
      · have e1 : (q : Int) < 64 := by omega
        go_wp2_with (at_builtin; refine wpList_append_keep rfl _ _ 22 rfl Bv 5 i5 (.int .u8 0) 1 1 Try.underlying22 hi5 hy0 hy1 hy2 rfl (by decide) _ _ _ rfl (HC.out.alloc _) ⟨wr.heap.size, 0, none⟩ 1 1 [.int .u8 m] rfl rfl ?b1 ?b2 ?b3 ?b4 ?b5 ?_)
        case b1 =>
          intro j u hj
          match j, hj with
          | 0, hj => simp at hj; subst hj; simp [Addr.add]
        case b2 => first | rfl | (intro u hu; simp at hu; subst hu; rfl) | simp [Value.oneCell']
        case b3 => unfold maxLen; omega
        case b4 => omega
        case b5 => simp; omega
        intro vc' w6 hoc hgc hatc hkc
        have hsa : (wr.alloc (.cells #[.int .u8 m] 5)).heap.size = wr.heap.size + 1 := by simp
        obtain ⟨aoc', capc', rfl⟩ := own_len hoc
        have HOC := hide hoc
        have HGC := hide hgc
        have HATC := hide hatc
        have HKC := hide hkc
        have HSA := hide hsa
        clear hoc hgc hatc hkc hsa
        go_wp2_with fail
        go_roundw
        case rel =>
          refine ⟨q + 1, by omega, by go_num, ?_, ?_, ?_, ?_⟩
          · have := HOC.out
            rw [← List.replicate_succ' (n := n + q)] at this
            exact this
          · intro g j hg hj
            have hc0 := HVR.out g j hg hj
            have hlt0 := World.block_lt_of_cell? wr _ hc0
            have hc1 : (wr.alloc (.cells #[.int .u8 m] 5)).cell? ⟨g, j, none⟩ = some (.int .u8 m) := (World.cell?_of_block (heap_alloc_old wr _ hlt0)).trans hc0
            by_cases hcb : (Value.slice aoc (n + q) capc).ownBlock = some g
            · exact (HKC.out g j hcb (by omega)).trans hc1
            · exact HGC.out.cell hc1 (fun e => hcb e.symm)
          · intro g hg
            rcases HATC.out with h | h
            · exact HCL.out g (h ▸ hg)
            · rw [hg] at h
              have := Option.some.inj h
              have := HSA.out
              exact .inr (by omega)
          · exact (HF.out.alloc _).grown HGC.out (fun x hx e => by
              rcases HCL.out x e with h | h
              · exact h
              · omega)
        case measure => simp [intOf]; omega
      · have e1 : ¬ (q : Int) < 64 := by omega
        obtain rfl : q = 64 := by omega
        go_wp2_with fail
        go_meet
        exact ⟨HC, HVR, HCL, HF⟩
  obtain ⟨HC, HVR, HCL, HF⟩ := hcut
  obtain ⟨w5, rfl⟩ : ∃ x, x = wc := ⟨_, rfl⟩
  obtain ⟨aoc, capc, rfl⟩ := own_len HC.out
  have hszf := HF.out.2.2.2.1
  have hsw := HF4.out.2.2.2.1
  have hok5 : w5.ownsRow B 59 2 (.slice aok1 (hs.length + 1) capk1) (hs.length + 1) (flat hs ++ [.slice ao n cap, .int .u8 m]) := HF.out.own HOK4.out (fun g h1 h2 => HVAP.out g h2 h1)
  have hp5 : w5.heap[gp]? = some (.cells #[pa, pb, .slice aok1 (hs.length + 1) capk1, .int .i64 lg'] 56 (0, 0)) := HF.out.at HP4.out HVP.out
  have cp5 : w5.cell? ⟨gp, 2, none⟩ = some (.slice aok1 (hs.length + 1) capk1) := by rw [cell_of_row w5 gp _ _ 56 (0, 0) hp5]; rfl
  have HOK5 := hide hok5
  have HP5 := hide hp5
  clear hok5 hp5
  go_wp2_with (at_builtin; refine wpList_append_keep rfl _ _ 54 rfl B 59 i0 (.agg #[.slice none 0 0, .int .u8 0]) 2 32 Try.underlying54 hi hz0 hz1 hz2 rfl (by decide) _ _ _ rfl (HOK5.out.alloc _) ⟨w5.heap.size, 0, none⟩ 1 1 [.slice aoc (n + 64) capc, .int .u8 m] rfl rfl ?d1 ?d2 ?d3 ?d4 ?d5 ?_)
  case d1 =>
    intro j u hj
    match j, hj with
    | 0, hj => simp at hj; subst hj; simp [Addr.add]
    | 1, hj => simp at hj; subst hj; simp [Addr.add]
  case d2 =>
    intro u hu
    simp at hu
    rcases hu with rfl | rfl <;> rfl
  case d3 => unfold maxLen; omega
  case d4 => omega
  case d5 => simp; omega
  intro vk6 w6 hok6 hg6 hat6 _
  have hsa : (w5.alloc (.cells #[.slice aoc (n + 64) capc, .int .u8 m] 59)).heap.size = w5.heap.size + 1 := by simp
  have hs6 : w5.heap.size + 1 ≤ w6.heap.size := by have := hg6.size; omega
  have hgp5 : gp < w5.heap.size := lt_of_block HP5.out
  have hp6 : w6.heap[gp]? = some (.cells #[pa, pb, .slice aok1 (hs.length + 1) capk1, .int .i64 lg'] 56 (0, 0)) := (hg6.block gp (by omega) (fun e => HNE1.out e.symm)).trans ((heap_alloc_old w5 _ hgp5).trans HP5.out)
  have cp6 : w6.cell? ⟨gp, 2, none⟩ = some (.slice aok1 (hs.length + 1) capk1) := by rw [cell_of_row w6 gp _ _ 56 (0, 0) hp6]; rfl
  have fp6 : w6.frozen? ⟨gp, 2, none⟩ = false := frozen_of_row w6 gp 2 _ 56 hp6
  obtain ⟨aok6, capk6, rfl⟩ := own_len hok6
  have HOK6 := hide hok6
  have HG6 := hide hg6
  have HAT6 := hide hat6
  have HP6 := hide hp6
  have HSA := hide hsa
  clear hok6 hg6 hat6 hp6 hsa
  go_wp2_with fail
  go_end0
  have hsa := HSA.out
  have hk6 : ∀ g, (Value.slice aok6 (hs.length + 1 + 1) capk6).ownBlock = some g → (Value.slice aok1 (hs.length + 1) capk1).ownBlock = some g ∨ g = w5.heap.size + 1 := fun g hg => by
    rcases HAT6.out with h | h
    · exact .inl (h ▸ hg)
    · rw [hg] at h
      have := Option.some.inj h
      exact .inr (by omega)
  have hkk : ∀ g, (Value.slice aok6 (hs.length + 1 + 1) capk6).ownBlock = some g → (Value.slice aok hs.length capk).ownBlock = some g ∨ w.heap.size ≤ g := fun g hg => by
    rcases hk6 g hg with h | h
    · rcases HVK1.out g h with h | h
      · exact .inl h
      · exact .inr h.2
    · exact .inr (by omega)
  have hne6 : (Value.slice aok6 (hs.length + 1 + 1) capk6).ownBlock ≠ some gp := fun e => by
    rcases hk6 gp e with h | h
    · exact HNE1.out h
    · omega
  have hwk : ∀ g, (Value.slice aok1 (hs.length + 1) capk1).ownBlock = some g → g < w4.heap.size := fun g hg => (HOK4.out.lt g hg).2
  have hcl2 : ∀ g, (Value.slice aoc (n + 64) capc).ownBlock = some g → g < w5.heap.size := fun g hg => (HC.out.lt g hg).2
  have hcw : ∀ g, (Value.slice aoc (n + 64) capc).ownBlock = some g → (Value.slice aok1 (hs.length + 1) capk1).ownBlock = some g → False := fun g h1 h2 => by
    rcases HCL.out g h1 with h | h
    · exact HVAP.out g h h2
    · have := hwk g h2
      omega
  have hcgp : ∀ g, (Value.slice aoc (n + 64) capc).ownBlock = some g → g ≠ gp := fun g h1 e => by
    rcases HCL.out g h1 with h | h
    · exact HVP.out (e ▸ h)
    · omega
  have F5 : Mv w w5 (fun k => k = gp ∨ (Value.slice ao n cap).ownBlock = some k ∨ (Value.slice aok hs.length capk).ownBlock = some k) := HF4.out.trans HF.out (fun k _ e => .inr (.inl e))
  have F6 : Mv w w6 (fun k => k = gp ∨ (Value.slice ao n cap).ownBlock = some k ∨ (Value.slice aok hs.length capk).ownBlock = some k) := (F5.alloc _).grown HG6.out (fun k hk e => by
    rcases HVK1.out k e with h | h
    · exact .inr (.inr h)
    · omega)
  have F7 := F6.set (g := gp) (.inl rfl) 2 (.slice aok6 (hs.length + 1 + 1) capk6)
  have hsz7 : (w6.setCell ⟨gp, 2, none⟩ (.slice aok6 (hs.length + 1 + 1) capk6)).heap.size = w6.heap.size := by simp
  refine ⟨rfl, .slice aok6 (hs.length + 1 + 1) capk6, hs ++ [(.slice ao n cap, m), (.slice aoc (n + 64) capc, m)], lg', ⟨heap_setCell_same w6 gp 2 _ 56 _ HP6.out, ?_, ?_, HK.out.2.2.2.1, hne6, hl0, hl4⟩, by simp, hkk, ?_, F7⟩
  · have := HOK6.out.kept (grown_set w6 gp 2 (.slice aok6 (hs.length + 1 + 1) capk6)) (.inr hne6)
    rw [flat_append, List.length_append]
    simpa [flat] using this
  · intro h hh
    rw [List.mem_append] at hh
    rcases hh with hh | hh
    · obtain ⟨a1, a2, a3, a4⟩ := HK.out.2.2.1 h hh
      refine ⟨a1.same (fun g hg hlt => F7.2.2.2.2 g hlt ?_), a2, fun g h1 h2 => ?_, fun g hg => ⟨(a4 g hg).1, by have := (a4 g hg).2; omega⟩⟩
      · rintro (rfl | e | e)
        · exact (a4 _ hg).1 rfl
        · exact HVS.out h hh g hg e
        · exact a3 g hg e
      · rcases hkk g h2 with h | h
        · exact a3 g h1 h
        · have := (a4 g h1).2
          omega
    · simp only [List.mem_cons, List.not_mem_nil, or_false] at hh
      rcases hh with rfl | rfl
      · refine ⟨⟨ao, n, cap, rfl, hcap1, by unfold maxLen; omega, fun j hj => ?_⟩, hm2, fun g h1 h2 => ?_, fun g hg => ⟨fun e => HVP.out (e ▸ hg), by have := HVLT.out g hg; omega⟩⟩
        · obtain ⟨g', rfl⟩ : ∃ g', ao = some ⟨g', 0, none⟩ := by
            rcases HV.out.2 with ⟨_, e⟩ | ⟨g, c', cur, e, _⟩
            · omega
            · simp only [Value.slice.injEq] at e
              exact ⟨g, e.1⟩
          refine ⟨g', 0, rfl, ?_⟩
          rw [Nat.zero_add]
          have hc0 := HVR.out g' j rfl hj
          have hc1 : (w5.alloc (.cells #[.slice aoc (n + 64) capc, .int .u8 m] 59)).cell? ⟨g', j, none⟩ = some (.int .u8 m) := (World.cell?_of_block (heap_alloc_old w5 _ (World.block_lt_of_cell? w5 _ hc0))).trans hc0
          have hc2 := HG6.out.cell hc1 (fun e => HVAP.out g' rfl e.symm)
          exact (World.cell?_of_block (heap_setCell_other w6 ⟨gp, 2, none⟩ g' _ (fun e => HVP.out (by rw [e]; rfl)))).trans hc2
        · rcases hk6 g h2 with h | h
          · exact HVAP.out g h1 h
          · have := HVLT.out g h1
            omega
      · refine ⟨hd_own (((HC.out.alloc _).kept HG6.out ?_).kept (grown_set w6 gp 2 (.slice aok6 (hs.length + 1 + 1) capk6)) (.inr (fun e => hcgp gp e rfl))), hm2, fun g h1 h2 => ?_, fun g hg => ⟨hcgp g hg, by have := hcl2 g hg; omega⟩⟩
        · cases hb : (Value.slice aoc (n + 64) capc).ownBlock with
          | none => exact .inl rfl
          | some x => exact .inr (fun e => hcw x hb e.symm)
        · rcases hk6 g h2 with h | h
          · exact hcw g h1 h
          · have := hcl2 g h1
            omega
  · intro x hx k hk
    rw [List.mem_append] at hx
    rcases hx with hx | hx
    · exact .inl ⟨x, hx, hk⟩
    · simp only [List.mem_cons, List.not_mem_nil, or_false] at hx
      rcases hx with rfl | rfl
      · exact .inr (.inl hk)
      · rcases HCL.out k hk with h | h
        · exact .inr (.inl h)
        · exact .inr (.inr (by omega))
end Go.Proofs.Ytmceoelafmlpjaa
